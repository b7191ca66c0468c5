/-
 Several texts in one: PH, PI, PJ.
-/
import Derived.Test.YtgpaajolcpgeaaaGreatDoorSrd14
namespace Go.Proofs.YtgpaajolcpgeaaaGreatDoor
open Go.RowKit
namespace Sx

set_option maxRecDepth 100000 in
set_option maxHeartbeats 3200000 in
theorem primary_step {X : Rx} {n : Nat} (hF : Rd4 X 66 0 n) (hT : Rd4 X 202 9 n) : Rd4 X 193 8 (n + 1) := by
 intro w p r hS hG
 rw [gr8] at hG
 have b0 := below_alloc w (.cells #[.int .i64 0, .string ⟨#[]⟩, .slice none 0 0, .bool false, .slice none 0 0, .slice none 0 0] 28)
 have y := vb_zero w
 have hbr := hS.lt
 have hb2 : w.heap.size ≠ X.br := by omega
 have hS0 := hide hS
 replace hS := hS.below b0
 have hra : w.heap.size < (w.alloc (.cells #[.int .i64 0, .string ⟨#[]⟩, .slice none 0 0, .bool false, .slice none 0 0, .slice none 0 0] 28)).heap.size := by simp
 have hka := hide (among_n hS (a := 7) (n := 1) (by decide) (by decide))
 have hg0 := hide (gb_of (m := X.br) b0)
 clear b0
 generalize hkn : amo 7 2 (hd (rem X.xs p)) = kn at *
 replace hkn := hide hkn
 replace hG := hide hG
 go_enter Tryz.func193, Tryz.ntmps193
 go_wp2_with fail
 generalize w.alloc (.cells #[.int .i64 0, .string ⟨#[]⟩, .slice none 0 0, .bool false, .slice none 0 0, .slice none 0 0] 28) = wa at *
 clear hS
 refine hka.out.mono ?_
 rintro en w1 ⟨g1, rfl, hS1, hp1⟩
 have y1 := y.grown g1 hb2
 have hg1 := hide (gbb hg0.out g1)
 have hwa1 := g1.size
 replace hG := hG.out
 clear hka hg0 y g1
 by_cases hk0 : kn = 0
 ·rw [if_neg (by simp [hk0])] at hG
  rw [if_pos hk0] at hS1
  have hbf : ((kn : Int) == 0) = true := by simp [hk0]
  have hps1 : Hid (Calls Tryz.prog 111 #[.pointer (some ⟨X.br, 0, none⟩), .string ⟨#[40]⟩] w1 fun en w' => PsP X.F w1 X.br X.va X.vn X.vc X.e X.xs p ⟨#[40]⟩ en w') := hide (passes_n hS1 (by decide))
  clear hS1 hp1
  replace hG := hide hG
  go_wp2_with fail
  replace hG := hG.out
  clear hbf hk0
  refine hps1.out.mono ?_
  rintro en w2 ⟨g2, ⟨he, rfl, hS2⟩ | ⟨he, rfl, hS2⟩⟩
  ·rw [if_pos (show hd (rem X.xs p) = opn from he), rem_tail] at hG
   have y2 := y1.grown g2 hb2
   have hg2 := hide (gbb hg1.out g2)
   have hwa2 := Nat.le_trans hwa1 g2.size
   clear hps1 hg1 y1 g2 he
   rcases th_some hG with ⟨c, h1, rfl⟩ | ⟨t, ts, h1, h2⟩
   ·have hc := hide (hF _ _ _ hS2 h1)
    clear hG h1 hT hF hS2
    go_wp2_with fail
    refine hc.out.mono ?_
    rintro en w3 ⟨g3, hpan⟩
    unfold Pan at hpan
    subst hpan
    exact ⟨rfl, gbb hg2.out g3, rfl⟩
   ·have hc := hide (hF _ _ _ hS2 h1)
    clear hG h1 hT hF hS2
    go_wp2_with fail
    refine hc.out.mono ?_
    rintro en w3 ⟨g3, x, q, rfl, hx, rfl, hS3⟩
    have y3 := y2.grown g3 hb2
    have b4 := below_alloc w3 (.cells #[.int .i64 x.k, .string x.nm, .slice x.na x.nn x.nc, .bool x.s, .slice x.a x.l x.c, .slice x.ka x.kn x.kc] 28)
    have z4 := vb_new w3 x
    have y4 := y3.below b4
    have hx4 := rt_below (g_le hwa2 hx) b4
    have hS4 := hS3.below b4
    have hg4 := hide (gbb (gbb hg2.out g3) (gb_of b4))
    have hlt : X.br < w3.heap.size := hS3.lt
    have hmu : Hid (Calls Tryz.prog 192 #[.pointer (some ⟨X.br, 0, none⟩), .string ⟨#[41]⟩] _ fun en w' => MuP X.F _ X.br X.va X.vn X.vc X.e X.xs q ⟨#[41]⟩ en w') := hide (must_n hS4 (by decide))
    have hba : X.br < wa.heap.size := by omega
    clear hc y3 y2 g3 hx b4 hS4 hS3 hg2
    go_wp2_with fail
    generalize w3.alloc (.cells #[.int .i64 x.k, .string x.nm, .slice x.na x.nn x.nc, .bool x.s, .slice x.a x.l x.c, .slice x.ka x.kn x.kc] 28) = w4 at *
    generalize w3.heap.size = bt at *
    refine hmu.out.mono ?_
    rintro en w5 ⟨g5, ⟨hd5, hp5, rfl, hS5⟩ | ⟨hd5, hpan⟩⟩
    ·rw [if_pos (show hd (rem X.xs q) = cls' from hd5), rem_tail] at h2
     obtain rfl := Option.some.inj h2
     have y5 := y4.grown g5 hb2
     have z5 := z4.grown g5 (by omega)
     have hres := hide (gp_ret hS0.out hra (gbb hg4.out g5) (rt_gb hx4 hba g5) hS5)
     have hfin := hide (vb_set y5 x)
     have q0 := y5.c0
     have f0 := y5.f 0
     have q1 := y5.c1
     have f1 := y5.f 1
     have q2' := y5.c2
     have f2 := y5.f 2
     have q3 := y5.c3
     have f3 := y5.f 3
     have q4 := y5.c4
     have f4 := y5.f 4
     have q5 := y5.c5
     have f5 := y5.f 5
     have r0 := z5.c0
     have r1 := z5.c1
     have r2 := z5.c2
     have r3 := z5.c3
     have r4 := z5.c4
     have r5 := z5.c5
     clear hmu y5 y4 z5 z4 g5 hx4 hS5 hg4 hd5
     go_wp2
     refine bodyPost_ret (results_cell_row rfl _ _ w.heap.size 28 _ (0, 0) _ rfl hfin.out Tryz.underlying28 rfl (by kernel_rfl)) rfl ?_
     exact hres.out
    ·unfold Pan at hpan
     subst hpan
     rw [if_neg (show ¬ hd (rem X.xs q) = cls' from hd5)] at h2
     obtain rfl := Option.some.inj h2
     exact ⟨rfl, gbb hg4.out g5, rfl⟩
  ·rw [if_neg (show ¬ hd (rem X.xs p) = opn from he)] at hG
   have y2 := y1.grown g2 hb2
   have hg2 := hide (gbb hg1.out g2)
   have hwa2 := Nat.le_trans hwa1 g2.size
   clear hps1 hg1 y1 g2 he
   obtain ⟨kd, t1, ad, ln, cp, at', e1, e2, -, -⟩ := tkV_is X.xs p
   obtain ⟨kd', t2, ad', ln', cp', at2, e3, -, e4, -⟩ := tkV_is X.xs (p + 1)
   replace e2 := hide e2
   replace e4 := hide e4
   have hcw := hS2.wo.cell (k := 15) (by decide)
   have hSS : Hid (∀ w', Below w2.heap.size w2 w' → w'.cell? ⟨0, 15, none⟩ = some (.string (wd 15))) := hide fun w' k => (hS2.below k).wo.cell (k := 15) (by decide)
   have hnx0 : Hid (∀ w', Below w2.heap.size w2 w' → Calls Tryz.prog 144 #[.pointer (some ⟨X.br, 0, none⟩), .int .i64 0] w' fun en w'' => en = .returned (.agg #[.int .i64 kd, .string t1, .bool false, .slice ad ln cp, .int .i64 at']) ∧ Below w'.heap.size w' w'') := hide fun w' k => by
    have := next_n (hS2.below k) 0 (by decide)
    rw [Nat.add_zero, e1] at this
    exact this
   have hnx1 : Hid (∀ w', Below w2.heap.size w2 w' → Calls Tryz.prog 144 #[.pointer (some ⟨X.br, 0, none⟩), .int .i64 1] w' fun en w'' => en = .returned (.agg #[.int .i64 kd', .string t2, .bool false, .slice ad' ln' cp', .int .i64 at2]) ∧ Below w'.heap.size w' w'') := hide fun w' k => by
    have := next_n (hS2.below k) 1 (by decide)
    rw [e3] at this
    exact this
   have hfd := fd0 kd t1 ad ln cp at'
   have hfd1 := fd1 kd' t2 ad' ln' cp' at2
   clear e1 e3 hcw
   replace hG := hide hG
   go_wp2_with fail
   refine wp_region_held_drew (S := (fun w' => w'.cell? ⟨0, 15, none⟩ = some (.string (wd 15)))) (by kernel_rfl) (hSS.out _ (grow_drew (Below.refl _ _))) (fun hHeld => ?_)
   show wpAnyH _ _ _ _ _ 12 _ _ _
   have kd0 := grow_drew (Below.refl w2.heap.size w2)
   generalize w2.drew = wd2 at *
   refine wpAnyH_take (i := 0) (oi := ⟨some 20, _, _, _, _, _⟩) (v := ?_) rfl (by kernel_rfl) (by kernel_rfl) (by kernel_rfl) (fun _ _ _ h => by first | exact h | cases h.1) (Or.inl ⟨by rfl, ?_⟩) (by assumption) ?_
   rotate_left
   ·intro wq hSw; (try dsimp only at hSw); go_simp; (try with_reducible rfl)
   (try simp only [Act.put, List.setIfInBounds_toArray, List.set_cons_zero, List.set_cons_succ])
   refine wpAnyH_ready (rs := [1]) (by kernel_rfl) (by simp) ?_
   refine AllReadyH.cons (o := ⟨some 21, _, _, _, _, _⟩) rfl (fun K hK => ?_) AllReadyH.nil
   go_simp
   refine Calls.mono (hnx0.out _ kd0) ?_
   rintro en w3 ⟨rfl, k3⟩
   have kd3 := grow_step k3 kd0
   (try go_wp2_with fail)
   refine hK.out _ _ ?_ ?_
   ·(try dsimp only); exact hSS.out _ kd3
   clear hK K hHeld; intro hHeld
   (try simp only [Act.put, List.setIfInBounds_toArray, List.set_cons_zero, List.set_cons_succ])
   by_cases hkd : kd = 1
   ·subst hkd
    refine wpAnyH_take (i := 2) (oi := ⟨some 22, _, _, _, _, _⟩) (v := ?_) rfl (by kernel_rfl) (by kernel_rfl) (by kernel_rfl) (fun _ _ _ h => by first | exact h | cases h.1) (Or.inl ⟨by rfl, ?_⟩) (by assumption) ?_
    rotate_left
    ·intro wq hSw; (try dsimp only at hSw); go_simp; (try with_reducible rfl)
    (try simp only [Act.put, List.setIfInBounds_toArray, List.set_cons_zero, List.set_cons_succ])
    refine wpAnyH_take (i := 3) (oi := ⟨some 23, _, _, _, _, _⟩) (v := ?_) rfl (by kernel_rfl) (by kernel_rfl) (by kernel_rfl) (fun _ _ _ h => by first | exact h | cases h.1) (Or.inl ⟨by rfl, ?_⟩) (by assumption) ?_
    rotate_left
    ·intro wq hSw; (try dsimp only at hSw); go_simp; (try with_reducible rfl)
    (try simp only [Act.put, List.setIfInBounds_toArray, List.set_cons_zero, List.set_cons_succ])
    refine wpAnyH_take (i := 4) (oi := ⟨some 24, _, _, _, _, _⟩) (v := ?_) rfl (by kernel_rfl) (by kernel_rfl) (by kernel_rfl) (fun _ _ _ h => by first | exact h | cases h.1) (Or.inl ⟨by rfl, ?_⟩) (by assumption) ?_
    rotate_left
    ·intro wq hSw; (try dsimp only at hSw); go_simp; (try with_reducible rfl)
    (try simp only [Act.put, List.setIfInBounds_toArray, List.set_cons_zero, List.set_cons_succ])
    refine wpAnyH_take (i := 5) (oi := ⟨some 25, _, _, _, _, _⟩) (v := ?_) rfl (by kernel_rfl) (by kernel_rfl) (by kernel_rfl) (fun _ _ _ h => by first | exact h | cases h.1) (Or.inl ⟨by rfl, ?_⟩) (by assumption) ?_
    rotate_left
    ·intro wq hSw; (try dsimp only at hSw); go_simp; (try with_reducible rfl)
    (try simp only [Act.put, List.setIfInBounds_toArray, List.set_cons_zero, List.set_cons_succ])
    refine wpAnyH_take (i := 8) (oi := ⟨some 28, _, _, _, _, _⟩) (v := ?_) rfl (by kernel_rfl) (by kernel_rfl) (by kernel_rfl) (fun _ _ _ h => by first | exact h | cases h.1) (Or.inl ⟨by rfl, ?_⟩) (by assumption) ?_
    rotate_left
    ·intro wq hSw; (try dsimp only at hSw); go_simp; (try with_reducible rfl)
    (try simp only [Act.put, List.setIfInBounds_toArray, List.set_cons_zero, List.set_cons_succ])
    refine wpAnyH_take (i := 9) (oi := ⟨some 29, _, _, _, _, _⟩) (v := ?_) rfl (by kernel_rfl) (by kernel_rfl) (by kernel_rfl) (fun _ _ _ h => by first | exact h | cases h.1) (Or.inl ⟨by rfl, ?_⟩) (by assumption) ?_
    rotate_left
    ·intro wq hSw; (try dsimp only at hSw); go_simp; (try with_reducible rfl)
    (try simp only [Act.put, List.setIfInBounds_toArray, List.set_cons_zero, List.set_cons_succ])
    refine wpAnyH_ready (rs := [6]) (by kernel_rfl) (by simp) ?_
    refine AllReadyH.cons (o := ⟨some 26, _, _, _, _, _⟩) rfl (fun K hK => ?_) AllReadyH.nil
    go_simp
    refine Calls.mono (hnx1.out _ kd3) ?_
    rintro en w4 ⟨rfl, k4⟩
    have kd4 := grow_step k4 kd3
    (try go_wp2_with fail)
    refine hK.out _ _ ?_ ?_
    ·(try dsimp only); exact hSS.out _ kd4
    clear hK K hHeld; intro hHeld
    (try simp only [Act.put, List.setIfInBounds_toArray, List.set_cons_zero, List.set_cons_succ])
    by_cases ht : t2 = wd 15
    ·have hb : (t2.toList == (wd 15).toList) = true := by rw [ht]; exact beq_self_eq_true _
     replace ht := hide ht
     refine wpAnyH_take (i := 7) (oi := ⟨some 27, _, _, _, _, _⟩) (v := ?_) rfl (by kernel_rfl) (by kernel_rfl) (by kernel_rfl) (fun _ _ _ h => by first | exact h | cases h.1) (Or.inl ⟨by rfl, ?_⟩) (by assumption) ?_
     rotate_left
     ·intro wq hSw; (try dsimp only at hSw); go_simp; (try with_reducible rfl)
     (try simp only [Act.put, List.setIfInBounds_toArray, List.set_cons_zero, List.set_cons_succ])
     refine wpAnyH_take (i := 10) (oi := ⟨some 30, _, _, _, _, _⟩) (v := ?_) rfl (by kernel_rfl) (by kernel_rfl) (by kernel_rfl) (fun _ _ _ h => by first | exact h | cases h.1) (Or.inl ⟨by rfl, ?_⟩) (by assumption) ?_
     rotate_left
     ·intro wq hSw; (try dsimp only at hSw); go_simp; (try with_reducible rfl)
     (try simp only [Act.put, List.setIfInBounds_toArray, List.set_cons_zero, List.set_cons_succ])
     refine wpAnyH_take (i := 11) (oi := ⟨some 31, _, _, _, _, _⟩) (v := ?_) rfl (by kernel_rfl) (by kernel_rfl) (by kernel_rfl) (fun _ _ _ h => by first | exact h | cases h.1) (Or.inl ⟨by rfl, ?_⟩) (by assumption) ?_
     rotate_left
     ·intro wq hSw; (try dsimp only at hSw); go_simp; (try with_reducible rfl)
     (try simp only [Act.put, List.setIfInBounds_toArray, List.set_cons_zero, List.set_cons_succ])
     refine wpAnyH_done (by kernel_rfl) ?_ _
     replace hG := hG.out
     have hp : p < X.xs.length := by
      by_cases hp : p < X.xs.length
      ·exact hp
      ·have := e2.out
       rw [rem_nil (by omega)] at this
       cases this
     have hk1 : (X.xs[p]).d.kind = 1 := by
      have := e2.out
      rw [rem_cons hp] at this
      exact this.symm
     rw [if_pos ⟨e2.out.symm, by rw [rem_tail]; exact e4.out.symm.trans ht.out⟩, rem_cons hp] at hG
     have hc := hide (divides_step hT (hS2.below kd4) hp hk1 (e4.out.symm.trans ht.out) hG)
     have y4 := y2.below kd4
     have hg4 := hide (gbb hg2.out (gb_of kd4))
     have hwa4 := Nat.le_trans hwa2 kd4.size
     clear hG hT hF hS2 hk1 hHeld hnx0 hnx1 hSS hfd hfd1 y2 hg2 e2 e4 hb ht hp
     go_wp2_with fail
     refine hc.out.mono ?_
     cases r with
     | inl c =>
      rintro en w5 ⟨g5, hpan⟩
      unfold Pan at hpan
      subst hpan
      exact ⟨rfl, gbb hg4.out g5, rfl⟩
     | inr tr =>
      obtain ⟨t, ts⟩ := tr
      rintro en w5 ⟨g5, x, q, rfl, hx, rfl, hS5⟩
      have y5 := y4.grown g5 hb2
      have hres := hide (gp_ret hS0.out hra (gbb hg4.out g5) (g_le hwa4 hx) hS5)
      have hfin := hide (vb_set y5 x)
      have q0 := y5.c0
      have f0 := y5.f 0
      have q1 := y5.c1
      have f1 := y5.f 1
      have q2' := y5.c2
      have f2 := y5.f 2
      have q3 := y5.c3
      have f3 := y5.f 3
      have q4 := y5.c4
      have f4 := y5.f 4
      have q5 := y5.c5
      have f5 := y5.f 5
      clear hc y5 y4 g5 hx hS5 hg4
      go_wp2
      refine bodyPost_ret (results_cell_row rfl _ _ w.heap.size 28 _ (0, 0) _ rfl hfin.out Tryz.underlying28 rfl (by kernel_rfl)) rfl ?_
      exact hres.out
    ·have hb : (t2.toList == (wd 15).toList) = false := by
      rw [Bool.eq_false_iff]
      exact fun e => ht (toList_iff.1 e)
     refine wpAnyH_take (i := 7) (oi := ⟨some 27, _, _, _, _, _⟩) (v := ?_) rfl (by kernel_rfl) (by kernel_rfl) (by kernel_rfl) (fun _ _ _ h => by first | exact h | cases h.1) (Or.inl ⟨by rfl, ?_⟩) (by assumption) ?_
     rotate_left
     ·intro wq hSw; (try dsimp only at hSw); go_simp; (try with_reducible rfl)
     (try simp only [Act.put, List.setIfInBounds_toArray, List.set_cons_zero, List.set_cons_succ])
     refine wpAnyH_take (i := 10) (oi := ⟨some 30, _, _, _, _, _⟩) (v := ?_) rfl (by kernel_rfl) (by kernel_rfl) (by kernel_rfl) (fun _ _ _ h => by first | exact h | cases h.1) (Or.inl ⟨by rfl, ?_⟩) (by assumption) ?_
     rotate_left
     ·intro wq hSw; (try dsimp only at hSw); go_simp; (try with_reducible rfl)
     (try simp only [Act.put, List.setIfInBounds_toArray, List.set_cons_zero, List.set_cons_succ])
     refine wpAnyH_take (i := 11) (oi := ⟨some 31, _, _, _, _, _⟩) (v := ?_) rfl (by kernel_rfl) (by kernel_rfl) (by kernel_rfl) (fun _ _ _ h => by first | exact h | cases h.1) (Or.inl ⟨by rfl, ?_⟩) (by assumption) ?_
     rotate_left
     ·intro wq hSw; (try dsimp only at hSw); go_simp; (try with_reducible rfl)
     (try simp only [Act.put, List.setIfInBounds_toArray, List.set_cons_zero, List.set_cons_succ])
     refine wpAnyH_done (by kernel_rfl) ?_ _
     replace hG := hG.out
     rw [if_neg (fun h => ht (e4.out.trans (by rw [← rem_tail]; exact h.2)))] at hG
     clear ht hb e2 e4
     have hS3 := hS2.below kd4
     have y3 := y2.below kd4
     have hg3 := hide (gbb hg2.out (gb_of kd4))
     have hwa3 := Nat.le_trans hwa2 kd4.size
     clear hHeld hnx0 hnx1 hSS hfd hfd1 hS2 y2 hg2
     rcases th_some hG with ⟨c, h1, rfl⟩ | ⟨t, ts, h1, h2⟩
     ·have hc := hide (hT _ _ _ hS3 h1)
      clear hG h1 hT hF hS3
      go_wp2_with fail
      refine hc.out.mono ?_
      rintro en w5 ⟨g5, hpan⟩
      unfold Pan at hpan
      subst hpan
      exact ⟨rfl, gbb hg3.out g5, rfl⟩
     ·have hc := hide (hT _ _ _ hS3 h1)
      clear hG h1 hF hS3
      replace h2 := hide h2
      go_wp2_with fail
      refine hc.out.mono ?_
      rintro en w5 ⟨g5, x, q, rfl, hx, rfl, hS5⟩
      have hba : X.br < wa.heap.size := by omega
      have y5 := y3.grown g5 hb2
      have hg5 := hide (gbb hg3.out g5)
      have hwa5 := Nat.le_trans hwa3 g5.size
      have b6 := below_alloc w5 (.cells #[.int .i64 x.k, .string x.nm, .slice x.na x.nn x.nc, .bool x.s, .slice x.a x.l x.c, .slice x.ka x.kn x.kc] 28)
      have z6 := vb_new w5 x
      have y6 := y5.below b6
      have hS6 := hS5.below b6
      have hx6 := rt_below (g_le hwa3 hx) b6
      have hg6 := hide (gbb hg5.out (gb_of b6))
      have hwa6 := Nat.le_trans hwa5 b6.size
      have hka := hide (among_n hS6 (a := 9) (n := 5) (by decide) (by decide))
      clear hc hg3 y3 g5 hg5 y5 hS5 hx b6 hS6
      replace h2 := h2.out
      generalize amo 9 6 (hd (rem X.xs q)) = kk at *
      replace h2 := hide h2
      replace z6 := hide z6
      replace y6 := hide y6
      replace hx6 := hide hx6
      go_wp2_with fail
      generalize w5.alloc (.cells #[.int .i64 x.k, .string x.nm, .slice x.na x.nn x.nc, .bool x.s, .slice x.a x.l x.c, .slice x.ka x.kn x.kc] 28) = w6 at *
      have hbtw : w.heap.size < w5.heap.size := by omega
      generalize w5.heap.size = bt at *
      refine hka.out.mono ?_
      rintro en w7 ⟨g7, rfl, hS7, -⟩
      replace h2 := h2.out
      have hbt : bt ≠ X.br := by omega
      have z7 := z6.out.grown g7 hbt
      have y7 := y6.out.grown g7 hb2
      have hx7 := rt_gb hx6.out hba g7
      have hg7 := hide (gbb hg6.out g7)
      have hwa7 := Nat.le_trans hwa6 g7.size
      clear hka hg6 z6 y6 hx6 g7
      by_cases hk0 : kk = 0
      ·rw [if_pos hk0] at h2
       obtain rfl := Option.some.inj h2
       rw [if_pos hk0] at hS7
       have hbf : ((kk : Int) == 0) = true := by simp [hk0]
       have hgu := hide (giveUp_n hS7)
       clear h2 hk0 hT hS7 z7 y7 hx7
       go_wp2_with fail
       refine hgu.out.mono ?_
       rintro en w8 ⟨hp, k8⟩
       unfold Pan at hp
       subst hp
       exact ⟨rfl, gbb hg7.out (gb_of k8), rfl⟩
      ·rw [if_neg hk0, rem_tail] at h2
       rw [if_neg hk0] at hS7
       have hbf : ((kk : Int) == 0) = false := by simpa using hk0
       clear hk0
       have hSV : Hid (∀ w', w7.grownBy w' (some X.br) → w'.cell? ⟨bt, 0, none⟩ = some (.int .i64 x.k) ∧ w'.cell? ⟨bt, 1, none⟩ = some (.string x.nm) ∧ w'.cell? ⟨bt, 2, none⟩ = some (.slice x.na x.nn x.nc) ∧ w'.cell? ⟨bt, 3, none⟩ = some (.bool x.s) ∧ w'.cell? ⟨bt, 4, none⟩ = some (.slice x.a x.l x.c) ∧ w'.cell? ⟨bt, 5, none⟩ = some (.slice x.ka x.kn x.kc)) := hide fun w' g => by
        have z := z7.grown g hbt
        exact ⟨z.c0, z.c1, z.c2, z.c3, z.c4, z.c5⟩
       go_wp2_with fail
       refine wp_region_held_drew (S := (fun w' => w'.cell? ⟨bt, 0, none⟩ = some (.int .i64 x.k) ∧ w'.cell? ⟨bt, 1, none⟩ = some (.string x.nm) ∧ w'.cell? ⟨bt, 2, none⟩ = some (.slice x.na x.nn x.nc) ∧ w'.cell? ⟨bt, 3, none⟩ = some (.bool x.s) ∧ w'.cell? ⟨bt, 4, none⟩ = some (.slice x.a x.l x.c) ∧ w'.cell? ⟨bt, 5, none⟩ = some (.slice x.ka x.kn x.kc))) (by kernel_rfl) (hSV.out _ (gb_of (grow_drew (Below.refl _ _)))) (fun hHeld => ?_)
       show wpAnyH _ _ _ _ _ 7 _ _ _
       have kd := grow_drew (Below.refl w7.heap.size w7)
       have hS4 := hS7.below kd
       have hgd := hide (gb_of (m := X.br) kd)
       generalize w7.drew = wd7 at *
       refine wpAnyH_take (i := 0) (oi := ⟨some 42, _, _, _, _, _⟩) (v := ?_) rfl (by kernel_rfl) (by kernel_rfl) (by kernel_rfl) (fun _ _ _ h => by first | exact h | cases h.1) (Or.inl ⟨by rfl, ?_⟩) (by assumption) ?_
       rotate_left
       ·intro wq hSw; (try dsimp only at hSw); go_simp; (try with_reducible rfl)
       (try simp only [Act.put, List.setIfInBounds_toArray, List.set_cons_zero, List.set_cons_succ])
       refine wpAnyH_take (i := 1) (oi := ⟨some 43, _, _, _, _, _⟩) (v := ?_) rfl (by kernel_rfl) (by kernel_rfl) (by kernel_rfl) (fun _ _ _ h => by first | exact h | cases h.1) (Or.inl ⟨by rfl, ?_⟩) (by assumption) ?_
       rotate_left
       ·intro wq hSw; (try dsimp only at hSw); go_simp; (try with_reducible rfl)
       (try simp only [Act.put, List.setIfInBounds_toArray, List.set_cons_zero, List.set_cons_succ])
       refine wpAnyH_take (i := 2) (oi := ⟨some 44, _, _, _, _, _⟩) (v := ?_) rfl (by kernel_rfl) (by kernel_rfl) (by kernel_rfl) (fun _ _ _ h => by first | exact h | cases h.1) (Or.inl ⟨by rfl, ?_⟩) (by assumption) ?_
       rotate_left
       ·intro wq hSw; (try dsimp only at hSw); go_simp; (try with_reducible rfl)
       (try simp only [Act.put, List.setIfInBounds_toArray, List.set_cons_zero, List.set_cons_succ])
       refine wpAnyH_ready (rs := [3]) (by kernel_rfl) (by simp) ?_
       refine AllReadyH.cons (o := ⟨some 45, _, _, _, _, _⟩) rfl (fun K hK => ?_) AllReadyH.nil
       go_simp
       rcases th_some h2 with ⟨c, h5, rfl⟩ | ⟨u, us, h5, h6⟩
       ·refine Calls.mono (hT _ _ _ hS4 h5) ?_
        rintro en w8 ⟨g4, hpan⟩
        unfold Pan at hpan
        subst hpan
        exact ⟨rfl, gbb (gbb hg7.out hgd.out) g4, rfl⟩
       ·refine Calls.mono (hT _ _ _ hS4 h5) ?_
        rintro en w8 ⟨g4, x2, q2, rfl, hx4, rfl, hS5⟩
        obtain rfl := Option.some.inj h6
        have hgd4 := gbb hgd.out g4
        have y4 := y7.grown hgd4 hb2
        have z4 := z7.grown hgd4 hbt
        have hx5 := rt_gb hx7 hba hgd4
        have hg4 := hide (gbb hg7.out hgd4)
        (try go_wp2_with fail)
        refine hK.out _ _ ?_ ?_
        ·(try dsimp only); exact hSV.out _ hgd4
        clear hK K hHeld; intro hHeld
        (try simp only [Act.put, List.setIfInBounds_toArray, List.set_cons_zero, List.set_cons_succ])
        refine wpAnyH_ready (rs := [4]) (by kernel_rfl) (by simp) ?_
        refine AllReadyH.cons (o := ⟨some 46, _, _, _, _, _⟩) rfl (fun K hK => ?_) AllReadyH.nil
        have b5 := below_alloc w8 (.cells (x.enc ++ x2.enc).toArray 28)
        have hb5 := heap_alloc_new w8 (.cells (x.enc ++ x2.enc).toArray 28)
        have y5 := y4.below b5
        have z5 := z4.below b5
        have hxx := rt_below hx5 b5
        have hxy := rt_below hx4 b5
        have hS6 := hS5.below b5
        have hg5 := hide (gbb hg4.out (gb_of b5))
        simp only [TC.enc, List.cons_append, List.nil_append] at b5 hb5 y5 z5 hxx hxy hS6 hg5
        go_simp
        refine hK.out _ _ ?_ ?_
        ·(try dsimp only); exact ⟨z5.c0, z5.c1, z5.c2, z5.c3, z5.c4, z5.c5⟩
        clear hK K hHeld; intro hHeld
        (try simp only [Act.put, List.setIfInBounds_toArray, List.set_cons_zero, List.set_cons_succ])
        have hx6 : Rt (X.G wa) _ x2 u := hxy.imp fun b hb => hb.imp id fun h => Nat.le_trans (Nat.le_trans hwa7 kd.size) h
        have hbn : wa.heap.size ≤ w8.heap.size := Nat.le_trans hwa7 (gbb hgd.out g4).size
        generalize w8.alloc (.cells #[.int .i64 x.k, .string x.nm, .slice x.na x.nn x.nc, .bool x.s, .slice x.a x.l x.c, .slice x.ka x.kn x.kc, .int .i64 x2.k, .string x2.nm, .slice x2.na x2.nn x2.nc, .bool x2.s, .slice x2.a x2.l x2.c, .slice x2.ka x2.kn x2.kc] 28) = w9 at *
        generalize w8.heap.size = bk at *
        refine wpAnyH_ready (rs := [5]) (by kernel_rfl) (by simp) ?_
        refine AllReadyH.cons (o := ⟨some 47, _, _, _, _, _⟩) rfl (fun K hK => ?_) AllReadyH.nil
        go_simp
        refine hK.out _ _ ?_ ?_
        ·(try dsimp only); exact ⟨z5.c0, z5.c1, z5.c2, z5.c3, z5.c4, z5.c5⟩
        clear hK K hHeld; intro hHeld
        (try simp only [Act.put, List.setIfInBounds_toArray, List.set_cons_zero, List.set_cons_succ])
        refine wpAnyH_ready (rs := [6]) (by kernel_rfl) (by simp) ?_
        refine AllReadyH.cons (o := ⟨none, _, _, _, _, _⟩) rfl (fun K hK => ?_) AllReadyH.nil
        have q0 := y5.c0
        have q1 := y5.c1
        have q2' := y5.c2
        have q3 := y5.c3
        have q4 := y5.c4
        have q5 := y5.c5
        have f0 := y5.f 0
        have f1 := y5.f 1
        have f2 := y5.f 2
        have f3 := y5.f 3
        have f4 := y5.f 4
        have f5 := y5.f 5
        have ho := v_only w9 w.heap.size ⟨kk, ⟨#[]⟩, none, 0, 0, false, none, 0, 0, some ⟨bk, 0, none⟩, 2, 2⟩
        have z6 : VB _ bt x := (ho.block bt (by omega)).trans z5
        go_simp
        refine hK.out _ _ ?_ ?_
        ·(try dsimp only); exact ⟨z6.c0, z6.c1, z6.c2, z6.c3, z6.c4, z6.c5⟩
        clear hK K hHeld; intro hHeld
        (try simp only [Act.put, List.setIfInBounds_toArray, List.set_cons_zero, List.set_cons_succ])
        refine wpAnyH_done (by kernel_rfl) ?_ _
        clear q0 q1 q2' q3 q4 q5 f0 f1 f2 f3 f4 f5
        go_wp2
        refine bodyPost_ret (results_cell_row rfl _ _ w.heap.size 28 _ (0, 0) _ rfl (vb_set y5 ⟨kk, ⟨#[]⟩, none, 0, 0, false, none, 0, 0, some ⟨bk, 0, none⟩, 2, 2⟩) Tryz.underlying28 rfl (by kernel_rfl)) rfl ?_
        exact gp_ret hS0.out hra hg5.out (rt_two hb5 (.inr hbn) hxx hx6) hS6
   ·have hbf : (kd == 1) = false := by simpa using hkd
    refine wpAnyH_take (i := 2) (oi := ⟨some 22, _, _, _, _, _⟩) (v := ?_) rfl (by kernel_rfl) (by kernel_rfl) (by kernel_rfl) (fun _ _ _ h => by first | exact h | cases h.1) (Or.inl ⟨by rfl, ?_⟩) (by assumption) ?_
    rotate_left
    ·intro wq hSw; (try dsimp only at hSw); go_simp; (try with_reducible rfl)
    (try simp only [Act.put, List.setIfInBounds_toArray, List.set_cons_zero, List.set_cons_succ])
    refine wpAnyH_take (i := 3) (oi := ⟨some 23, _, _, _, _, _⟩) (v := ?_) rfl (by kernel_rfl) (by kernel_rfl) (by kernel_rfl) (fun _ _ _ h => by first | exact h | cases h.1) (Or.inl ⟨by rfl, ?_⟩) (by assumption) ?_
    rotate_left
    ·intro wq hSw; (try dsimp only at hSw); go_simp; (try with_reducible rfl)
    (try simp only [Act.put, List.setIfInBounds_toArray, List.set_cons_zero, List.set_cons_succ])
    refine wpAnyH_take (i := 4) (oi := ⟨some 24, _, _, _, _, _⟩) (v := ?_) rfl (by kernel_rfl) (by kernel_rfl) (by kernel_rfl) (fun _ _ _ h => by first | exact h | cases h.1) (Or.inl ⟨by rfl, ?_⟩) (by assumption) ?_
    rotate_left
    ·intro wq hSw; (try dsimp only at hSw); go_simp; (try with_reducible rfl)
    (try simp only [Act.put, List.setIfInBounds_toArray, List.set_cons_zero, List.set_cons_succ])
    refine wpAnyH_take (i := 5) (oi := ⟨some 25, _, _, _, _, _⟩) (v := undef) rfl (by kernel_rfl) (by kernel_rfl) (by kernel_rfl) (fun _ _ _ h => by first | exact h | cases h.1) (Or.inr ⟨by rfl, rfl⟩) (by assumption) ?_
    (try simp only [Act.put, List.setIfInBounds_toArray, List.set_cons_zero, List.set_cons_succ])
    refine wpAnyH_take (i := 6) (oi := ⟨some 26, _, _, _, _, _⟩) (v := undef) rfl (by kernel_rfl) (by kernel_rfl) (by kernel_rfl) (fun _ _ _ h => by first | exact h | cases h.1) (Or.inr ⟨by rfl, rfl⟩) (by assumption) ?_
    (try simp only [Act.put, List.setIfInBounds_toArray, List.set_cons_zero, List.set_cons_succ])
    refine wpAnyH_take (i := 7) (oi := ⟨some 27, _, _, _, _, _⟩) (v := undef) rfl (by kernel_rfl) (by kernel_rfl) (by kernel_rfl) (fun _ _ _ h => by first | exact h | cases h.1) (Or.inr ⟨by rfl, rfl⟩) (by assumption) ?_
    (try simp only [Act.put, List.setIfInBounds_toArray, List.set_cons_zero, List.set_cons_succ])
    refine wpAnyH_take (i := 8) (oi := ⟨some 28, _, _, _, _, _⟩) (v := undef) rfl (by kernel_rfl) (by kernel_rfl) (by kernel_rfl) (fun _ _ _ h => by first | exact h | cases h.1) (Or.inr ⟨by rfl, rfl⟩) (by assumption) ?_
    (try simp only [Act.put, List.setIfInBounds_toArray, List.set_cons_zero, List.set_cons_succ])
    refine wpAnyH_take (i := 9) (oi := ⟨some 29, _, _, _, _, _⟩) (v := undef) rfl (by kernel_rfl) (by kernel_rfl) (by kernel_rfl) (fun _ _ _ h => by first | exact h | cases h.1) (Or.inr ⟨by rfl, rfl⟩) (by assumption) ?_
    (try simp only [Act.put, List.setIfInBounds_toArray, List.set_cons_zero, List.set_cons_succ])
    refine wpAnyH_take (i := 10) (oi := ⟨some 30, _, _, _, _, _⟩) (v := undef) rfl (by kernel_rfl) (by kernel_rfl) (by kernel_rfl) (fun _ _ _ h => by first | exact h | cases h.1) (Or.inr ⟨by rfl, rfl⟩) (by assumption) ?_
    (try simp only [Act.put, List.setIfInBounds_toArray, List.set_cons_zero, List.set_cons_succ])
    refine wpAnyH_take (i := 11) (oi := ⟨some 31, _, _, _, _, _⟩) (v := ?_) rfl (by kernel_rfl) (by kernel_rfl) (by kernel_rfl) (fun _ _ _ h => by first | exact h | cases h.1) (Or.inl ⟨by rfl, ?_⟩) (by assumption) ?_
    rotate_left
    ·intro wq hSw; (try dsimp only at hSw); go_simp; (try with_reducible rfl)
    (try simp only [Act.put, List.setIfInBounds_toArray, List.set_cons_zero, List.set_cons_succ])
    refine wpAnyH_done (by kernel_rfl) ?_ _
    replace hG := hG.out
    rw [if_neg (fun h => hkd (e2.out.trans h.1))] at hG
    clear hkd hbf e2 e4
    have hS3 := hS2.below kd3
    have y3 := y2.below kd3
    have hg3 := hide (gbb hg2.out (gb_of kd3))
    have hwa3 := Nat.le_trans hwa2 kd3.size
    clear hHeld hnx0 hnx1 hSS hfd hfd1 hS2 y2 hg2
    rcases th_some hG with ⟨c, h1, rfl⟩ | ⟨t, ts, h1, h2⟩
    ·have hc := hide (hT _ _ _ hS3 h1)
     clear hG h1 hT hF hS3
     go_wp2_with fail
     refine hc.out.mono ?_
     rintro en w5 ⟨g5, hpan⟩
     unfold Pan at hpan
     subst hpan
     exact ⟨rfl, gbb hg3.out g5, rfl⟩
    ·have hc := hide (hT _ _ _ hS3 h1)
     clear hG h1 hF hS3
     replace h2 := hide h2
     go_wp2_with fail
     refine hc.out.mono ?_
     rintro en w5 ⟨g5, x, q, rfl, hx, rfl, hS5⟩
     have hba : X.br < wa.heap.size := by omega
     have y5 := y3.grown g5 hb2
     have hg5 := hide (gbb hg3.out g5)
     have hwa5 := Nat.le_trans hwa3 g5.size
     have b6 := below_alloc w5 (.cells #[.int .i64 x.k, .string x.nm, .slice x.na x.nn x.nc, .bool x.s, .slice x.a x.l x.c, .slice x.ka x.kn x.kc] 28)
     have z6 := vb_new w5 x
     have y6 := y5.below b6
     have hS6 := hS5.below b6
     have hx6 := rt_below (g_le hwa3 hx) b6
     have hg6 := hide (gbb hg5.out (gb_of b6))
     have hwa6 := Nat.le_trans hwa5 b6.size
     have hka := hide (among_n hS6 (a := 9) (n := 5) (by decide) (by decide))
     clear hc hg3 y3 g5 hg5 y5 hS5 hx b6 hS6
     replace h2 := h2.out
     generalize amo 9 6 (hd (rem X.xs q)) = kk at *
     replace h2 := hide h2
     replace z6 := hide z6
     replace y6 := hide y6
     replace hx6 := hide hx6
     go_wp2_with fail
     generalize w5.alloc (.cells #[.int .i64 x.k, .string x.nm, .slice x.na x.nn x.nc, .bool x.s, .slice x.a x.l x.c, .slice x.ka x.kn x.kc] 28) = w6 at *
     have hbtw : w.heap.size < w5.heap.size := by omega
     generalize w5.heap.size = bt at *
     refine hka.out.mono ?_
     rintro en w7 ⟨g7, rfl, hS7, -⟩
     replace h2 := h2.out
     have hbt : bt ≠ X.br := by omega
     have z7 := z6.out.grown g7 hbt
     have y7 := y6.out.grown g7 hb2
     have hx7 := rt_gb hx6.out hba g7
     have hg7 := hide (gbb hg6.out g7)
     have hwa7 := Nat.le_trans hwa6 g7.size
     clear hka hg6 z6 y6 hx6 g7
     by_cases hk0 : kk = 0
     ·rw [if_pos hk0] at h2
      obtain rfl := Option.some.inj h2
      rw [if_pos hk0] at hS7
      have hbf : ((kk : Int) == 0) = true := by simp [hk0]
      have hgu := hide (giveUp_n hS7)
      clear h2 hk0 hT hS7 z7 y7 hx7
      go_wp2_with fail
      refine hgu.out.mono ?_
      rintro en w8 ⟨hp, k8⟩
      unfold Pan at hp
      subst hp
      exact ⟨rfl, gbb hg7.out (gb_of k8), rfl⟩
     ·rw [if_neg hk0, rem_tail] at h2
      rw [if_neg hk0] at hS7
      have hbf : ((kk : Int) == 0) = false := by simpa using hk0
      clear hk0
      have hSV : Hid (∀ w', w7.grownBy w' (some X.br) → w'.cell? ⟨bt, 0, none⟩ = some (.int .i64 x.k) ∧ w'.cell? ⟨bt, 1, none⟩ = some (.string x.nm) ∧ w'.cell? ⟨bt, 2, none⟩ = some (.slice x.na x.nn x.nc) ∧ w'.cell? ⟨bt, 3, none⟩ = some (.bool x.s) ∧ w'.cell? ⟨bt, 4, none⟩ = some (.slice x.a x.l x.c) ∧ w'.cell? ⟨bt, 5, none⟩ = some (.slice x.ka x.kn x.kc)) := hide fun w' g => by
       have z := z7.grown g hbt
       exact ⟨z.c0, z.c1, z.c2, z.c3, z.c4, z.c5⟩
      go_wp2_with fail
      refine wp_region_held_drew (S := (fun w' => w'.cell? ⟨bt, 0, none⟩ = some (.int .i64 x.k) ∧ w'.cell? ⟨bt, 1, none⟩ = some (.string x.nm) ∧ w'.cell? ⟨bt, 2, none⟩ = some (.slice x.na x.nn x.nc) ∧ w'.cell? ⟨bt, 3, none⟩ = some (.bool x.s) ∧ w'.cell? ⟨bt, 4, none⟩ = some (.slice x.a x.l x.c) ∧ w'.cell? ⟨bt, 5, none⟩ = some (.slice x.ka x.kn x.kc))) (by kernel_rfl) (hSV.out _ (gb_of (grow_drew (Below.refl _ _)))) (fun hHeld => ?_)
      show wpAnyH _ _ _ _ _ 7 _ _ _
      have kd := grow_drew (Below.refl w7.heap.size w7)
      have hS4 := hS7.below kd
      have hgd := hide (gb_of (m := X.br) kd)
      generalize w7.drew = wd7 at *
      refine wpAnyH_take (i := 0) (oi := ⟨some 42, _, _, _, _, _⟩) (v := ?_) rfl (by kernel_rfl) (by kernel_rfl) (by kernel_rfl) (fun _ _ _ h => by first | exact h | cases h.1) (Or.inl ⟨by rfl, ?_⟩) (by assumption) ?_
      rotate_left
      ·intro wq hSw; (try dsimp only at hSw); go_simp; (try with_reducible rfl)
      (try simp only [Act.put, List.setIfInBounds_toArray, List.set_cons_zero, List.set_cons_succ])
      refine wpAnyH_take (i := 1) (oi := ⟨some 43, _, _, _, _, _⟩) (v := ?_) rfl (by kernel_rfl) (by kernel_rfl) (by kernel_rfl) (fun _ _ _ h => by first | exact h | cases h.1) (Or.inl ⟨by rfl, ?_⟩) (by assumption) ?_
      rotate_left
      ·intro wq hSw; (try dsimp only at hSw); go_simp; (try with_reducible rfl)
      (try simp only [Act.put, List.setIfInBounds_toArray, List.set_cons_zero, List.set_cons_succ])
      refine wpAnyH_take (i := 2) (oi := ⟨some 44, _, _, _, _, _⟩) (v := ?_) rfl (by kernel_rfl) (by kernel_rfl) (by kernel_rfl) (fun _ _ _ h => by first | exact h | cases h.1) (Or.inl ⟨by rfl, ?_⟩) (by assumption) ?_
      rotate_left
      ·intro wq hSw; (try dsimp only at hSw); go_simp; (try with_reducible rfl)
      (try simp only [Act.put, List.setIfInBounds_toArray, List.set_cons_zero, List.set_cons_succ])
      refine wpAnyH_ready (rs := [3]) (by kernel_rfl) (by simp) ?_
      refine AllReadyH.cons (o := ⟨some 45, _, _, _, _, _⟩) rfl (fun K hK => ?_) AllReadyH.nil
      go_simp
      rcases th_some h2 with ⟨c, h5, rfl⟩ | ⟨u, us, h5, h6⟩
      ·refine Calls.mono (hT _ _ _ hS4 h5) ?_
       rintro en w8 ⟨g4, hpan⟩
       unfold Pan at hpan
       subst hpan
       exact ⟨rfl, gbb (gbb hg7.out hgd.out) g4, rfl⟩
      ·refine Calls.mono (hT _ _ _ hS4 h5) ?_
       rintro en w8 ⟨g4, x2, q2, rfl, hx4, rfl, hS5⟩
       obtain rfl := Option.some.inj h6
       have hgd4 := gbb hgd.out g4
       have y4 := y7.grown hgd4 hb2
       have z4 := z7.grown hgd4 hbt
       have hx5 := rt_gb hx7 hba hgd4
       have hg4 := hide (gbb hg7.out hgd4)
       (try go_wp2_with fail)
       refine hK.out _ _ ?_ ?_
       ·(try dsimp only); exact hSV.out _ hgd4
       clear hK K hHeld; intro hHeld
       (try simp only [Act.put, List.setIfInBounds_toArray, List.set_cons_zero, List.set_cons_succ])
       refine wpAnyH_ready (rs := [4]) (by kernel_rfl) (by simp) ?_
       refine AllReadyH.cons (o := ⟨some 46, _, _, _, _, _⟩) rfl (fun K hK => ?_) AllReadyH.nil
       have b5 := below_alloc w8 (.cells (x.enc ++ x2.enc).toArray 28)
       have hb5 := heap_alloc_new w8 (.cells (x.enc ++ x2.enc).toArray 28)
       have y5 := y4.below b5
       have z5 := z4.below b5
       have hxx := rt_below hx5 b5
       have hxy := rt_below hx4 b5
       have hS6 := hS5.below b5
       have hg5 := hide (gbb hg4.out (gb_of b5))
       simp only [TC.enc, List.cons_append, List.nil_append] at b5 hb5 y5 z5 hxx hxy hS6 hg5
       go_simp
       refine hK.out _ _ ?_ ?_
       ·(try dsimp only); exact ⟨z5.c0, z5.c1, z5.c2, z5.c3, z5.c4, z5.c5⟩
       clear hK K hHeld; intro hHeld
       (try simp only [Act.put, List.setIfInBounds_toArray, List.set_cons_zero, List.set_cons_succ])
       have hx6 : Rt (X.G wa) _ x2 u := hxy.imp fun b hb => hb.imp id fun h => Nat.le_trans (Nat.le_trans hwa7 kd.size) h
       have hbn : wa.heap.size ≤ w8.heap.size := Nat.le_trans hwa7 (gbb hgd.out g4).size
       generalize w8.alloc (.cells #[.int .i64 x.k, .string x.nm, .slice x.na x.nn x.nc, .bool x.s, .slice x.a x.l x.c, .slice x.ka x.kn x.kc, .int .i64 x2.k, .string x2.nm, .slice x2.na x2.nn x2.nc, .bool x2.s, .slice x2.a x2.l x2.c, .slice x2.ka x2.kn x2.kc] 28) = w9 at *
       generalize w8.heap.size = bk at *
       refine wpAnyH_ready (rs := [5]) (by kernel_rfl) (by simp) ?_
       refine AllReadyH.cons (o := ⟨some 47, _, _, _, _, _⟩) rfl (fun K hK => ?_) AllReadyH.nil
       go_simp
       refine hK.out _ _ ?_ ?_
       ·(try dsimp only); exact ⟨z5.c0, z5.c1, z5.c2, z5.c3, z5.c4, z5.c5⟩
       clear hK K hHeld; intro hHeld
       (try simp only [Act.put, List.setIfInBounds_toArray, List.set_cons_zero, List.set_cons_succ])
       refine wpAnyH_ready (rs := [6]) (by kernel_rfl) (by simp) ?_
       refine AllReadyH.cons (o := ⟨none, _, _, _, _, _⟩) rfl (fun K hK => ?_) AllReadyH.nil
       have q0 := y5.c0
       have q1 := y5.c1
       have q2' := y5.c2
       have q3 := y5.c3
       have q4 := y5.c4
       have q5 := y5.c5
       have f0 := y5.f 0
       have f1 := y5.f 1
       have f2 := y5.f 2
       have f3 := y5.f 3
       have f4 := y5.f 4
       have f5 := y5.f 5
       have ho := v_only w9 w.heap.size ⟨kk, ⟨#[]⟩, none, 0, 0, false, none, 0, 0, some ⟨bk, 0, none⟩, 2, 2⟩
       have z6 : VB _ bt x := (ho.block bt (by omega)).trans z5
       go_simp
       refine hK.out _ _ ?_ ?_
       ·(try dsimp only); exact ⟨z6.c0, z6.c1, z6.c2, z6.c3, z6.c4, z6.c5⟩
       clear hK K hHeld; intro hHeld
       (try simp only [Act.put, List.setIfInBounds_toArray, List.set_cons_zero, List.set_cons_succ])
       refine wpAnyH_done (by kernel_rfl) ?_ _
       clear q0 q1 q2' q3 q4 q5 f0 f1 f2 f3 f4 f5
       go_wp2
       refine bodyPost_ret (results_cell_row rfl _ _ w.heap.size 28 _ (0, 0) _ rfl (vb_set y5 ⟨kk, ⟨#[]⟩, none, 0, 0, false, none, 0, 0, some ⟨bk, 0, none⟩, 2, 2⟩) Tryz.underlying28 rfl (by kernel_rfl)) rfl ?_
       exact gp_ret hS0.out hra hg5.out (rt_two hb5 (.inr hbn) hxx hx6) hS6
 ·rw [if_pos hk0, rem_tail] at hG
  obtain rfl := Option.some.inj hG
  rw [if_neg hk0] at hS1
  have hbf : ((kn : Int) != 0) = true := by simpa using hk0
  have hres := hide (gp_ret (x := ⟨kn, ⟨#[]⟩, none, 0, 0, false, none, 0, 0, none, 0, 0⟩) hS0.out hra hg1.out (rt_mk (l := lk kn) (ks := []) (rl_k _ _ kn _ 0 0) ⟨rfl, .inl rfl⟩) hS1)
  have hfin := hide (vb_set y1 ⟨kn, ⟨#[]⟩, none, 0, 0, false, none, 0, 0, none, 0, 0⟩)
  have q0 := y1.c0
  have f0 := y1.f 0
  have q1 := y1.c1
  have f1 := y1.f 1
  have q2' := y1.c2
  have f2 := y1.f 2
  have q3 := y1.c3
  have f3 := y1.f 3
  have q4 := y1.c4
  have f4 := y1.f 4
  have q5 := y1.c5
  have f5 := y1.f 5
  clear y1 hg1 hS1 hp1 hG hk0 hT hF
  go_wp2
  refine bodyPost_ret (results_cell_row rfl _ _ w.heap.size 28 _ (0, 0) _ rfl hfin.out Tryz.underlying28 rfl (by kernel_rfl)) rfl ?_
  exact hres.out
end Sx
end Go.Proofs.YtgpaajolcpgeaaaGreatDoor

namespace Go.Proofs.YtgpaajolcpgeaaaGreatDoor
open Go.RowKit
namespace Sx

/-- all rules, with so many steps -/
structure Rda (X : Rx) (n : Nat) : Prop where
 formula : Rd4 X 66 0 n
 implied : Rd4 X 110 2 n
 ored : Rd4 X 143 3 n
 anded : Rd4 X 167 5 n
 notted : Rd4 X 183 7 n
 primary : Rd4 X 193 8 n
 total : Rd4 X 202 9 n
 operand : Rd4 X 208 11 n
theorem rd_none {X : Rx} {K tag : Nat} : Rd4 X K tag 0 := fun _ _ _ _ h => by cases h
theorem reads_to {X : Rx} (hsh : Sht X.xs) (n : Nat) : ∀ m, m ≤ n → Rda X m := by
 induction n with
 | zero =>
  intro m hm
  obtain rfl : m = 0 := by omega
  exact ⟨rd_none, rd_none, rd_none, rd_none, rd_none, rd_none, rd_none, rd_none⟩
 | succ n ih =>
  intro m hm
  by_cases h : m ≤ n
  ·exact ih m h
  ·obtain rfl : m = n + 1 := by omega
   have h0 := ih n (Nat.le_refl _)
   exact ⟨formula_step fun m hm => (ih m hm).implied, implied_step h0.ored h0.implied, ored_step fun m hm => (ih m hm).anded, anded_step fun m hm => (ih m hm).notted, notted_step hsh h0.notted h0.formula h0.primary, primary_step h0.formula h0.total, total_step fun m hm => (ih m hm).operand, operand_step hsh h0.operand h0.total⟩
/-- a formula is read as the grammar says -/
theorem formula_n {X : Rx} (hsh : Sht X.xs) (n : Nat) : Rd4 X 66 0 n := (reads_to hsh n n (Nat.le_refl _)).formula
/-- more steps tell the same -/
theorem gr_more {e : Nat} (n : Nat) : ∀ {tag : Nat} {acc : List Tr} {ts : List TD} {r : Res}, Gr e n tag acc ts = some r → Gr e (n + 1) tag acc ts = some r := by
 induction n with
 | zero => exact fun h => by cases h
 | succ n ih =>
  intro tag acc ts r h
  match tag with
  | 0 => exact th_mono (fun _ => ih) (fun _ _ _ => ih) _ h
  | 1 =>
   simp only [Gr] at h ⊢
   split at h
   ·rename_i hc
    rw [if_pos hc]
    exact th_mono (fun _ => ih) (fun _ _ _ => ih) _ h
   ·rename_i hc
    rw [if_neg hc]
    exact h
  | 2 =>
   refine th_mono (fun _ => ih) (fun t r q h => ?_) _ h
   split at h
   ·rename_i hc
    rw [if_pos hc]
    exact th_mono (fun _ => ih) (fun _ _ _ h => h) _ h
   ·rename_i hc
    rw [if_neg hc]
    exact h
  | 3 => exact th_mono (fun _ => ih) (fun _ _ _ => ih) _ h
  | 4 =>
   simp only [Gr] at h ⊢
   split at h
   ·rename_i hc
    rw [if_pos hc]
    exact th_mono (fun _ => ih) (fun _ _ _ => ih) _ h
   ·rename_i hc
    rw [if_neg hc]
    exact h
  | 5 => exact th_mono (fun _ => ih) (fun _ _ _ => ih) _ h
  | 6 =>
   simp only [Gr] at h ⊢
   split at h
   ·rename_i hc
    rw [if_pos hc]
    exact th_mono (fun _ => ih) (fun _ _ _ => ih) _ h
   ·rename_i hc
    rw [if_neg hc]
    exact h
  | 7 =>
   simp only [Gr] at h ⊢
   split at h
   ·rename_i hc
    rw [if_pos hc]
    exact th_mono (fun _ => ih) (fun _ _ _ h => h) _ h
   ·rename_i hc
    rw [if_neg hc]
    split at h
    ·rename_i hc
     rw [if_pos hc]
     split at h
     ·rename_i hc
      rw [if_pos hc]
      exact h
     ·rename_i hc
      rw [if_neg hc]
      exact th_mono (fun _ => ih) (fun _ _ _ h => h) _ h
    ·rename_i hc
     rw [if_neg hc]
     exact ih h
  | 8 =>
   rw [gr8] at h ⊢
   split at h
   ·rename_i hc
    rw [if_pos hc]
    exact h
   ·rename_i hc
    rw [if_neg hc]
    split at h
    ·rename_i hc
     rw [if_pos hc]
     exact th_mono (fun _ => ih) (fun _ _ _ h => h) _ h
    ·rename_i hc
     rw [if_neg hc]
     split at h
     ·rename_i hc
      rw [if_pos hc]
      cases ts with
      | nil => cases h
      | cons x r =>
       dsimp only at h ⊢
       split at h
       ·rename_i hc
        rw [if_pos hc]
        exact h
       ·rename_i hc
        rw [if_neg hc]
        exact th_mono (fun _ => ih) (fun _ _ _ h => h) _ h
     ·rename_i hc
      rw [if_neg hc]
      refine th_mono (fun _ => ih) (fun t r q h => ?_) _ h
      split at h
      ·rename_i hc
       rw [if_pos hc]
       exact h
      ·rename_i hc
       rw [if_neg hc]
       exact th_mono (fun _ => ih) (fun _ _ _ h => h) _ h
  | 9 => exact th_mono (fun _ => ih) (fun _ _ _ => ih) _ h
  | 10 =>
   simp only [Gr] at h ⊢
   split at h
   ·rename_i hc
    rw [if_pos hc]
    exact th_mono (fun _ => ih) (fun _ _ _ => ih) _ h
   ·rename_i hc
    rw [if_neg hc]
    exact h
  | k + 11 =>
   rw [gr11] at h ⊢
   split at h
   ·rename_i hc
    rw [if_pos hc]
    exact th_mono (fun _ => ih) (fun _ _ _ h => h) _ h
   ·rename_i hc
    rw [if_neg hc]
    split at h
    ·rename_i hc
     rw [if_pos hc]
     exact th_mono (fun _ => ih) (fun _ _ _ h => h) _ h
    ·rename_i hc
     rw [if_neg hc]
     split at h
     ·rename_i hc
      rw [if_pos hc]
      cases ts with
      | nil => cases h
      | cons x r =>
       dsimp only at h ⊢
       split at h
       ·rename_i hc
        rw [if_pos hc]
        exact th_mono (fun _ => ih) (fun _ _ _ h => h) _ h
       ·rename_i hc
        rw [if_neg hc]
        exact h
     ·rename_i hc
      rw [if_neg hc]
      exact h
theorem gr_up {e n m : Nat} (hm : n ≤ m) {tag : Nat} {acc : List Tr} {ts : List TD} {r : Res} (h : Gr e n tag acc ts = some r) : Gr e m tag acc ts = some r := by
 induction m with
 | zero =>
  obtain rfl : n = 0 := by omega
  exact h
 | succ m ih =>
  by_cases e : n = m + 1
  ·subst e
   exact h
  ·exact gr_more m (ih (by omega))
end Sx
end Go.Proofs.YtgpaajolcpgeaaaGreatDoor

namespace Go.Proofs.YtgpaajolcpgeaaaGreatDoor
open Go.RowKit
namespace Sx

theorem ne_hd {ts : List TD} {s : ByteArray} (h : hd ts = s) (hs : s ≠ ⟨#[]⟩) : ts ≠ [] := fun e => hs (by rw [← h, e]; rfl)
theorem ne_amo {ts : List TD} {a n : Nat} (h : amo a n (hd ts) ≠ 0) (h0 : amo a n ⟨#[]⟩ = 0) : ts ≠ [] := fun e => h (by rw [e]; exact h0)
theorem th_tot {e tag : Nat} {acc : List Tr} {ts : List TD} {F : Nat → Tr → List TD → Option Res} (h : ∃ n r, Gr e n tag acc ts = some r) (hm : ∀ n m t q r, n ≤ m → F n t q = some r → F m t q = some r) (hF : ∀ t q, q.length ≤ ts.length → ∃ n r, F n t q = some r) : ∃ n r, th (Gr e n tag acc ts) (fun t q => F n t q) = some r := by
 obtain ⟨n, r, h⟩ := h
 cases r with
 | inl c => exact ⟨n, .inl c, by rw [h]; rfl⟩
 | inr p =>
  obtain ⟨t, q⟩ := p
  obtain ⟨m, r, h2⟩ := hF t q (gr_len n h)
  refine ⟨max n m, r, ?_⟩
  rw [gr_up (Nat.le_max_left n m) h]
  exact hm m _ t q r (Nat.le_max_right n m) h2
theorem gr_tot (e L : Nat) : ∀ (tag : Nat) (acc : List Tr) (ts : List TD), ts.length ≤ L → ∃ n r, Gr e n tag acc ts = some r := by
 induction L using Nat.strongRecOn with
 | _ L ih =>
  have sm : ∀ (tag : Nat) (acc : List Tr) (ts us : List TD), ts.length ≤ L → ts ≠ [] → us.length ≤ ts.tail.length → ∃ n r, Gr e n tag acc us = some r := fun tag acc ts us hl hne hu => by
   have : 0 < ts.length := List.length_pos_iff.2 hne
   rw [List.length_tail] at hu
   exact ih us.length (by omega) tag acc us (Nat.le_refl _)
  have t11 : ∀ (k : Nat) (acc : List Tr) (ts : List TD), ts.length ≤ L → ∃ n r, Gr e n (k + 11) acc ts = some r := by
   intro k acc ts hl
   by_cases h1 : hd ts = wd 3
   ·obtain ⟨n, r, h⟩ := th_tot (F := fun _ t r => some (.inr (nd (lk 3) [t], r))) (sm 11 [] ts ts.tail hl (ne_hd h1 (by decide)) (Nat.le_refl _)) (fun _ _ _ _ _ _ h => h) (fun _ _ _ => ⟨0, _, rfl⟩)
    exact ⟨n + 1, r, by rw [gr11, if_pos h1]; exact h⟩
   ·by_cases h2 : hd ts = opn
    ·obtain ⟨n, r, h⟩ := th_tot (F := fun _ t r => if hd r = cls' then some (.inr (t, r.tail)) else some (.inl (bad e r))) (sm 9 [] ts ts.tail hl (ne_hd h2 (by decide)) (Nat.le_refl _)) (fun _ _ _ _ _ _ h => h) (fun t q _ => by
      by_cases hc : hd q = cls'
      ·exact ⟨0, _, by rw [if_pos hc]⟩
      ·exact ⟨0, _, by rw [if_neg hc]⟩)
     exact ⟨n + 1, r, by rw [gr11, if_neg h1, if_pos h2]; exact h⟩
    ·by_cases h3 : hk ts = 1
     ·cases ts with
      | nil => cases h3
      | cons t r =>
       by_cases h4 : hd r = wd 6
       ·obtain ⟨n, r', h⟩ := th_tot (F := fun _ u q => some (.inr (nd ⟨6, ⟨#[]⟩, [], false, cl t.num⟩ [u], q))) (sm 11 [] (t :: r) r.tail hl (by simp) (tail_le _)) (fun _ _ _ _ _ _ h => h) (fun _ _ _ => ⟨0, _, rfl⟩)
        exact ⟨n + 1, r', by rw [gr11, if_neg h1, if_neg h2, if_pos h3]; dsimp only; rw [if_pos h4]; exact h⟩
       ·exact ⟨1, _, by rw [gr11, if_neg h1, if_neg h2, if_pos h3]; dsimp only; rw [if_neg h4]⟩
     ·by_cases h4 : hk ts = 2
      ·exact ⟨1, _, by rw [gr11, if_neg h1, if_neg h2, if_neg h3, if_pos h4]⟩
      ·exact ⟨1, _, by rw [gr11, if_neg h1, if_neg h2, if_neg h3, if_neg h4]⟩
  have t10 : ∀ (acc : List Tr) (ts : List TD), ts.length ≤ L → ∃ n r, Gr e n 10 acc ts = some r := by
   intro acc ts hl
   by_cases h1 : amo 4 2 (hd ts) ≠ 0
   ·have hne := ne_amo h1 (by decide)
    obtain ⟨n, r, h⟩ := th_tot (F := fun n u r => Gr e n 10 [nd (lk (amo 4 2 (hd ts))) (acc ++ [u])] r) (sm 11 [] ts ts.tail hl hne (Nat.le_refl _)) (fun _ _ _ _ _ hm h => gr_up hm h) (fun t q hq => sm 10 _ ts q hl hne hq)
    exact ⟨n + 1, r, by simp only [Gr]; rw [if_pos h1]; exact h⟩
   ·exact ⟨1, _, by simp only [Gr]; rw [if_neg h1]⟩
  have t9 : ∀ (acc : List Tr) (ts : List TD), ts.length ≤ L → ∃ n r, Gr e n 9 acc ts = some r := by
   intro acc ts hl
   obtain ⟨n, r, h⟩ := th_tot (F := fun n t r => Gr e n 10 [t] r) (t11 0 [] ts hl) (fun _ _ _ _ _ hm h => gr_up hm h) (fun t q hq => t10 _ q (Nat.le_trans hq hl))
   exact ⟨n + 1, r, h⟩
  have t8 : ∀ (acc : List Tr) (ts : List TD), ts.length ≤ L → ∃ n r, Gr e n 8 acc ts = some r := by
   intro acc ts hl
   by_cases h1 : amo 7 2 (hd ts) ≠ 0
   ·exact ⟨1, _, by rw [gr8, if_pos h1]⟩
   ·by_cases h2 : hd ts = opn
    ·obtain ⟨n, r, h⟩ := th_tot (F := fun _ t r => if hd r = cls' then some (.inr (t, r.tail)) else some (.inl (bad e r))) (sm 0 [] ts ts.tail hl (ne_hd h2 (by decide)) (Nat.le_refl _)) (fun _ _ _ _ _ _ h => h) (fun t q _ => by
      by_cases hc : hd q = cls'
      ·exact ⟨0, _, by rw [if_pos hc]⟩
      ·exact ⟨0, _, by rw [if_neg hc]⟩)
     exact ⟨n + 1, r, by rw [gr8, if_neg h1, if_pos h2]; exact h⟩
    ·by_cases h3 : hk ts = 1 ∧ hd ts.tail = wd 15
     ·cases ts with
      | nil => cases h3.1
      | cons t r =>
       by_cases h4 : t.num = 0
       ·exact ⟨1, _, by rw [gr8, if_neg h1, if_neg h2, if_pos h3]; dsimp only; rw [if_pos h4]⟩
       ·obtain ⟨n, r', h⟩ := th_tot (F := fun _ u q => some (.inr (nd ⟨15, ⟨#[]⟩, [], false, cl t.num⟩ [u], q))) (sm 9 [] (t :: r) r.tail hl (by simp) (tail_le _)) (fun _ _ _ _ _ _ h => h) (fun _ _ _ => ⟨0, _, rfl⟩)
        exact ⟨n + 1, r', by rw [gr8, if_neg h1, if_neg h2, if_pos h3]; dsimp only; rw [if_neg h4]; exact h⟩
     ·obtain ⟨n, r, h⟩ := th_tot (F := fun n l r => if amo 9 6 (hd r) = 0 then some (.inl (bad e r)) else th (Gr e n 9 [] r.tail) fun u q => some (.inr (nd (lk (amo 9 6 (hd r))) [l, u], q))) (t9 [] ts hl) (fun n m t q r hm h => by
       split at h
       ·rename_i hc
        rw [if_pos hc]
        exact h
       ·rename_i hc
        rw [if_neg hc]
        exact th_mono (fun _ => gr_up hm) (fun _ _ _ h => h) _ h) (fun t q hq => by
       by_cases hc : amo 9 6 (hd q) = 0
       ·exact ⟨0, _, by rw [if_pos hc]⟩
       ·obtain ⟨n, r, h⟩ := th_tot (F := fun _ u q' => some (.inr (nd (lk (amo 9 6 (hd q))) [t, u], q'))) (sm 9 [] q q.tail (Nat.le_trans hq hl) (ne_amo hc (by decide)) (Nat.le_refl _)) (fun _ _ _ _ _ _ h => h) (fun _ _ _ => ⟨0, _, rfl⟩)
        exact ⟨n, r, by rw [if_neg hc]; exact h⟩)
      exact ⟨n + 1, r, by rw [gr8, if_neg h1, if_neg h2, if_neg h3]; exact h⟩
  have t7 : ∀ (acc : List Tr) (ts : List TD), ts.length ≤ L → ∃ n r, Gr e n 7 acc ts = some r := by
   intro acc ts hl
   by_cases h1 : hd ts = wd 16
   ·obtain ⟨n, r, h⟩ := th_tot (F := fun _ t r => some (.inr (nd (lk 16) [t], r))) (sm 7 [] ts ts.tail hl (ne_hd h1 (by decide)) (Nat.le_refl _)) (fun _ _ _ _ _ _ h => h) (fun _ _ _ => ⟨0, _, rfl⟩)
    exact ⟨n + 1, r, by simp only [Gr]; rw [if_pos h1]; exact h⟩
   ·by_cases h2 : amo 21 2 (hd ts) ≠ 0
    ·by_cases h3 : (nms ts.tail).1 = [] ∨ hd (nms ts.tail).2 ≠ dot
     ·exact ⟨1, _, by simp only [Gr]; rw [if_neg h1, if_pos h2, if_pos h3]⟩
     ·obtain ⟨n, r, h⟩ := th_tot (F := fun _ t r => some (.inr (nd ⟨amo 21 2 (hd ts), ⟨#[]⟩, (nms ts.tail).1, false, []⟩ [t], r))) (sm 0 [] ts (nms ts.tail).2.tail hl (ne_amo h2 (by decide)) (Nat.le_trans (tail_le _) (nms_len _))) (fun _ _ _ _ _ _ h => h) (fun _ _ _ => ⟨0, _, rfl⟩)
      exact ⟨n + 1, r, by simp only [Gr]; rw [if_neg h1, if_pos h2, if_neg h3]; exact h⟩
    ·obtain ⟨n, r, h⟩ := t8 [] ts hl
     exact ⟨n + 1, r, by simp only [Gr]; rw [if_neg h1, if_neg h2]; exact h⟩
  have t6 : ∀ (acc : List Tr) (ts : List TD), ts.length ≤ L → ∃ n r, Gr e n 6 acc ts = some r := by
   intro acc ts hl
   by_cases h1 : hd ts = wd 17
   ·have hne := ne_hd h1 (by decide)
    obtain ⟨n, r, h⟩ := th_tot (F := fun n u r => Gr e n 6 (acc ++ [u]) r) (sm 7 [] ts ts.tail hl hne (Nat.le_refl _)) (fun _ _ _ _ _ hm h => gr_up hm h) (fun t q hq => sm 6 _ ts q hl hne hq)
    exact ⟨n + 1, r, by simp only [Gr]; rw [if_pos h1]; exact h⟩
   ·exact ⟨1, _, by simp only [Gr]; rw [if_neg h1]⟩
  have t5 : ∀ (acc : List Tr) (ts : List TD), ts.length ≤ L → ∃ n r, Gr e n 5 acc ts = some r := by
   intro acc ts hl
   obtain ⟨n, r, h⟩ := th_tot (F := fun n t r => Gr e n 6 [t] r) (t7 [] ts hl) (fun _ _ _ _ _ hm h => gr_up hm h) (fun t q hq => t6 _ q (Nat.le_trans hq hl))
   exact ⟨n + 1, r, h⟩
  have t4 : ∀ (acc : List Tr) (ts : List TD), ts.length ≤ L → ∃ n r, Gr e n 4 acc ts = some r := by
   intro acc ts hl
   by_cases h1 : hd ts = wd 18
   ·have hne := ne_hd h1 (by decide)
    obtain ⟨n, r, h⟩ := th_tot (F := fun n u r => Gr e n 4 (acc ++ [u]) r) (sm 5 [] ts ts.tail hl hne (Nat.le_refl _)) (fun _ _ _ _ _ hm h => gr_up hm h) (fun t q hq => sm 4 _ ts q hl hne hq)
    exact ⟨n + 1, r, by simp only [Gr]; rw [if_pos h1]; exact h⟩
   ·exact ⟨1, _, by simp only [Gr]; rw [if_neg h1]⟩
  have t3 : ∀ (acc : List Tr) (ts : List TD), ts.length ≤ L → ∃ n r, Gr e n 3 acc ts = some r := by
   intro acc ts hl
   obtain ⟨n, r, h⟩ := th_tot (F := fun n t r => Gr e n 4 [t] r) (t5 [] ts hl) (fun _ _ _ _ _ hm h => gr_up hm h) (fun t q hq => t4 _ q (Nat.le_trans hq hl))
   exact ⟨n + 1, r, h⟩
  have t2 : ∀ (acc : List Tr) (ts : List TD), ts.length ≤ L → ∃ n r, Gr e n 2 acc ts = some r := by
   intro acc ts hl
   obtain ⟨n, r, h⟩ := th_tot (F := fun n t r => if hd r = wd 19 then th (Gr e n 2 [] r.tail) fun u q => some (.inr (nd (lk 19) [t, u], q)) else some (.inr (t, r))) (t3 [] ts hl) (fun n m t q r hm h => by
    split at h
    ·rename_i hc
     rw [if_pos hc]
     exact th_mono (fun _ => gr_up hm) (fun _ _ _ h => h) _ h
    ·rename_i hc
     rw [if_neg hc]
     exact h) (fun t q hq => by
    by_cases hc : hd q = wd 19
    ·obtain ⟨n, r, h⟩ := th_tot (F := fun _ u q' => some (.inr (nd (lk 19) [t, u], q'))) (sm 2 [] q q.tail (Nat.le_trans hq hl) (ne_hd hc (by decide)) (Nat.le_refl _)) (fun _ _ _ _ _ _ h => h) (fun _ _ _ => ⟨0, _, rfl⟩)
     exact ⟨n, r, by rw [if_pos hc]; exact h⟩
    ·exact ⟨0, _, by rw [if_neg hc]⟩)
   exact ⟨n + 1, r, h⟩
  have t1 : ∀ (acc : List Tr) (ts : List TD), ts.length ≤ L → ∃ n r, Gr e n 1 acc ts = some r := by
   intro acc ts hl
   by_cases h1 : hd ts = wd 20
   ·have hne := ne_hd h1 (by decide)
    obtain ⟨n, r, h⟩ := th_tot (F := fun n u r => Gr e n 1 [nd (lk 20) (acc ++ [u])] r) (sm 2 [] ts ts.tail hl hne (Nat.le_refl _)) (fun _ _ _ _ _ hm h => gr_up hm h) (fun t q hq => sm 1 _ ts q hl hne hq)
    exact ⟨n + 1, r, by simp only [Gr]; rw [if_pos h1]; exact h⟩
   ·exact ⟨1, _, by simp only [Gr]; rw [if_neg h1]⟩
  intro tag acc ts hl
  match tag with
  | 0 =>
   obtain ⟨n, r, h⟩ := th_tot (F := fun n t r => Gr e n 1 [t] r) (t2 [] ts hl) (fun _ _ _ _ _ hm h => gr_up hm h) (fun t q hq => t1 _ q (Nat.le_trans hq hl))
   exact ⟨n + 1, r, h⟩
  | 1 => exact t1 acc ts hl
  | 2 => exact t2 acc ts hl
  | 3 => exact t3 acc ts hl
  | 4 => exact t4 acc ts hl
  | 5 => exact t5 acc ts hl
  | 6 => exact t6 acc ts hl
  | 7 => exact t7 acc ts hl
  | 8 => exact t8 acc ts hl
  | 9 => exact t9 acc ts hl
  | 10 => exact t10 acc ts hl
  | k + 11 => exact t11 k acc ts hl
/-- the formula ahead, or the error; what is left -/
theorem gr_ex (e : Nat) (ts : List TD) : ∃ r : Res, ∃ n, Gr e n 0 [] ts = some r := by
 obtain ⟨n, r, h⟩ := gr_tot e ts.length 0 [] ts (Nat.le_refl _)
 exact ⟨r, n, h⟩
theorem gr_one {e n m tag : Nat} {acc : List Tr} {ts : List TD} {r r' : Res} (h : Gr e n tag acc ts = some r) (h' : Gr e m tag acc ts = some r') : r = r' :=
 Option.some.inj ((gr_up (Nat.le_max_left n m) h).symm.trans (gr_up (Nat.le_max_right n m) h'))
end Sx
end Go.Proofs.YtgpaajolcpgeaaaGreatDoor
