/-
  Layer 5: 'awake'.
-/
import Derived.Test.YtpjngmllbkcclaaYF
import Derived.Test.YtpjngmllbkcclaaZ4
namespace Go.Proofs.Ytpjngmllbkcclaa
open Go.RowKit Go.Sort Go.Shelf
open Tm

theorem pr_one {w : World} {b : Nat} {v : Int} {s : Bool} {a : Option Addr} {l c : Nat} {z : Int} {B : Nat} {ty : TypeId} {fz : Nat × Nat} (hb : w.heap[b]? = some (.cells #[.int .i64 v, .bool s, .slice a l c] ty fz)) (hz : Zm w s a l c z) (hl : l ≤ B) (hv : I64 v) : Pr w (some ⟨b, 0, none⟩) 1 [(v, z)] B := by
  refine ⟨rfl, .inr ⟨b, 0, rfl, (Array.getElem?_eq_some_iff.1 hb).1, fun i hi => ?_⟩⟩
  obtain rfl : i = 0 := by simp at hi; omega
  exact ⟨s, a, l, c, cell_of_row w b 0 _ _ fz hb, cell_of_row w b 1 _ _ fz hb, cell_of_row w b 2 _ _ fz hb, hz, hl, hv⟩
theorem pr_one_c {w : World} {b : Nat} {v : Int} {s : Bool} {a : Option Addr} {l c : Nat} {z : Int} {B : Nat} (hz : Zm w s a l c z) (hl : l ≤ B) (hv : I64 v) (h0 : w.cell? ⟨b, 0, none⟩ = some (.int .i64 v)) (h1 : w.cell? ⟨b, 1, none⟩ = some (.bool s)) (h2 : w.cell? ⟨b, 2, none⟩ = some (.slice a l c)) : Pr w (some ⟨b, 0, none⟩) 1 [(v, z)] B := by
  refine ⟨rfl, .inr ⟨b, 0, rfl, World.block_lt_of_cell? w ⟨b, 0, none⟩ h0, fun i hi => ?_⟩⟩
  obtain rfl : i = 0 := by simp at hi; omega
  exact ⟨s, a, l, c, h0, h1, h2, hz, hl, hv⟩
theorem cutP {A B : Prop} (h : A → B) (a : A) : B := h a
theorem zb_new1 (w : World) (o : Obj) (s : Bool) (a : Option Addr) (l c : Nat) : ZB ((w.alloc o).alloc (.cells #[.bool s, .slice a l c] 25)) (w.heap.size + 1) s a l c := by
  have := zb_new (w.alloc o) s a l c
  rwa [show (w.alloc o).heap.size = w.heap.size + 1 from by simp] at this
theorem zk1v {wb w' : World} {p l c g : Nat} {s : Bool} {a : Option Addr} {v : Value} (x : ZB wb p s a l c) (hg : g < wb.heap.size) (hv : wb.cell? ⟨g, 0, none⟩ = some v) (k : Below wb.heap.size wb w') :
    w'.cell? ⟨p, 0, none⟩ = some (.bool s) ∧ w'.cell? ⟨p, 1, none⟩ = some (.slice a l c) ∧ w'.cell? ⟨g, 0, none⟩ = some v ∧ Below wb.heap.size wb w' :=
  ⟨(x.below k).c0, (x.below k).c1, (k.cell (p := ⟨g, 0, none⟩) hg).trans hv, k⟩
theorem tkb {wb w' : World} {p : Nat} {ad : Option Addr} {n cp : Nat} {s : Bool} {a : Option Addr} {l c : Nat} (x : TB wb p ad n cp s a l c) (k : Below wb.heap.size wb w') :
    w'.cell? ⟨p, 0, none⟩ = some (.slice ad n cp) ∧ w'.cell? ⟨p, 1, none⟩ = some (.bool s) ∧ w'.cell? ⟨p, 2, none⟩ = some (.slice a l c) ∧ Below wb.heap.size wb w' :=
  ⟨(x.below k).c0, (x.below k).c1, (x.below k).c2, k⟩

set_option maxRecDepth 100000 in
set_option maxHeartbeats 6400000 in
theorem awake5 (w : World) :
    Calls Try.prog 9 #[] w fun e w' => e = .returned (.bool true) ∧ Below w.heap.size w w' := by
  have i3 : I64 3 := by unfold I64; decide
  go_enter Try.func9, Try.ntmps9
  go_wp2_with fail
  refine (zof_n 2 (by decide) (by decide) w).mono ?_
  rintro e w1 ⟨s1, a1, l1, c1, rfl, z1, k1, b1⟩
  go_wp2_with fail
  refine (tvar_n (B := 2) i3 (Nat.le_refl _)).mono ?_
  rintro e w2 ⟨ad2, cp2, rs2, rfl, hT2, hr2⟩
  have k2 := hT2.below
  have t2 := hT2.tw
  rw [hr2] at t2
  go_wp2_with fail
  refine (tscale_n (z1.below k2).zm (by omega) t2.1 t2.2.1 t2.2.2 (by decide)).mono ?_
  rintro e w3 ⟨ad3, n3, cp3, s3, a3, l3, c3, qs3, rfl, t3, hn3, hS3, hc3, k3⟩
  go_wp2_with fail
  refine (zof_n 5 (by decide) (by decide) w3).mono ?_
  rintro e w4 ⟨s4, a4, l4, c4, rfl, z4, k4, b4⟩
  go_wp2_with fail
  refine (tconst_n (B := 8) z4.zm (by omega) (by decide)).mono ?_
  rintro e w5 ⟨s5, a5, l5, c5, rfl, hT5⟩
  have k5 := hT5.below
  have t5 := hT5.tw
  have t3' := ((t3.below k4).below k5).mono (B' := 8) (by omega)
  go_wp2_with fail
  refine (tsub_n t3'.1 t3'.2.1 t3'.2.2 t5.1 t5.2.1 t5.2.2 (by omega)).mono ?_
  rintro e w6 ⟨ad6, n6, cp6, s6, a6, l6, c6, rs6, rfl, hT6, hn6, hS6, hc6⟩
  have k6 := hT6.below
  have t6 := hT6.tw
  have kA := hide (grow_step k6 (grow_step k5 (grow_step k4 (grow_step k3 (grow_step k2 k1)))))
  have hq : Hid (rs6.map Raw.p = [(3, 2)]) := by
    refine std_unique hS6 ⟨by simp, by simp⟩ (fun v => ?_)
    rw [hc6, csum_append, hc3, csum_scl, csum_scl]
    simp [csum]
    split <;> rfl
  rw [hq.out] at t6
  clear hT2 t2 t3 t3' t5 hT5 hT6 k1 k2 k3 k4 k5 k6 z1 z4 hc3 hc6 hS3 hS6 hq
  have x := tb_new w6 ad6 n6 cp6 s6 a6 l6 c6
  have kb := below_alloc w6 (.cells #[.slice ad6 n6 cp6, .bool s6, .slice a6 l6 c6] 27)
  replace t6 := t6.below kb
  replace kA := hide (grow_step kb kA.out)
  clear kb
  go_wp2_with fail
  generalize w6.alloc (.cells #[.slice ad6 n6 cp6, .bool s6, .slice a6 l6 c6] 27) = wb at *
  generalize w6.heap.size = p at *
  obtain ⟨hP6, hz6, hl6⟩ := t6
  obtain rfl : n6 = 1 := hP6.1.symm
  have hTot : Tot [(3, 2)] [(3, 4)] := fun v hc => by
    obtain ⟨q, hq, rfl⟩ := csum_mem hc
    simp at hq
    subst hq
    simp [fv]
  have hval : Hid (2 * 0 - 5 + ev [(3, 2)] (val1 [(3, 4)]) = 3) := by show _ = _; decide
  go_region_held3 (fun w' => w'.cell? ⟨p, 0, none⟩ = some (.slice ad6 1 cp6) ∧ w'.cell? ⟨p, 1, none⟩ = some (.bool s6) ∧ w'.cell? ⟨p, 2, none⟩ = some (.slice a6 l6 c6) ∧ Below wb.heap.size wb w')
    ((refine tkb x ?_; first | focus ((repeat' (first | with_reducible exact Below.refl _ _ | with_reducible assumption | with_reducible refine grow_step (by with_reducible assumption) ?_ | with_reducible refine grow_drew ?_ | with_reducible refine grow_alloc ?_ _ | with_reducible refine grow_drewN ?_ _)); done) | ((refine Below.setCell (Below.setCell ?_ ?_ _) ?_ _) <;> first | focus ((repeat' (first | with_reducible exact Below.refl _ _ | with_reducible assumption | with_reducible refine grow_step (by with_reducible assumption) ?_ | with_reducible refine grow_drew ?_ | with_reducible refine grow_alloc ?_ _ | with_reducible refine grow_drewN ?_ _)); done) | (exact Nat.le_refl _) | (exact hw7) | (exact Nat.le_succ_of_le hw7))))
    (first | (go_at_call 48; refine (zof_n 4 (by decide) (by decide) _).mono ?_; rintro e w7 ⟨s7, a7, l7, c7, rfl, z7, k7, b7⟩; have hw7 : wb.heap.size ≤ w7.heap.size := Below.size (show Below wb.heap.size wb w7 by (repeat' (first | with_reducible exact Below.refl _ _ | with_reducible assumption | with_reducible refine grow_step (by with_reducible assumption) ?_ | with_reducible refine grow_drew ?_ | with_reducible refine grow_alloc ?_ _ | with_reducible refine grow_drewN ?_ _)))) | (go_at_call 42; refine (eval_n (B := 16) (Pr.mono (Pr.below hP6 (by (repeat' (first | with_reducible exact Below.refl _ _ | with_reducible assumption | with_reducible refine grow_step (by with_reducible assumption) ?_ | with_reducible refine grow_drew ?_ | with_reducible refine grow_alloc ?_ _ | with_reducible refine grow_drewN ?_ _)))) (by omega)) (Zm.below hz6 (by (repeat' (first | with_reducible exact Below.refl _ _ | with_reducible assumption | with_reducible refine grow_step (by with_reducible assumption) ?_ | with_reducible refine grow_drew ?_ | with_reducible refine grow_alloc ?_ _ | with_reducible refine grow_drewN ?_ _)))) (by omega) (pr_one_c (Zm.below z7.zm (by (repeat' (first | with_reducible exact Below.refl _ _ | with_reducible assumption | with_reducible refine grow_step (by with_reducible assumption) ?_ | with_reducible refine grow_drew ?_ | with_reducible refine grow_alloc ?_ _ | with_reducible refine grow_drewN ?_ _)))) (by omega) i3 (by simp) (by simp) (by simp)) (by omega)).mono ?_; rintro e w8 ⟨s8, a8, l8, c8, er, rfl, k8, hE⟩; (first | (have q8 := ZB.below (zb_new1 w7 (.cells #[.int .i64 3, .bool s7, .slice a7 l7 c7] 57) false none 0 0) k8; have q0 := q8.c0; have q1 := q8.c1; have q2 := q8.f 0; have q3 := q8.f 1) | (have q8 := ZB.below (zb_new w7 false none 0 0) (grow_step k8 (below_alloc _ _)); have q0 := q8.c0; have q1 := q8.c1; have q2 := q8.f 0; have q3 := q8.f 1) | (have q8 := ZB.below (zb_new wb false none 0 0) (grow_step k8 (grow_alloc (grow_step k7 (grow_drew (Below.refl _ _))) _)); have q0 := q8.c0; have q1 := q8.c1; have q2 := q8.f 0; have q3 := q8.f 1) | skip)))
  · rename_i hH
    have kH := hH.2.2.2
    rcases hE with ⟨hn, _⟩ | ⟨_, rfl, hz8, hl8⟩
    · exact absurd hTot hn
    · rw [hval.out] at hz8
      have xz := zb_new w8 s8 a8 l8 c8
      have hzc := hz8.below (below_alloc w8 (.cells #[.bool s8, .slice a8 l8 c8] 25))
      have x9 := x.below kH
      have hP9 := hP6.below kH
      have hz9 := hz6.below kH
      have kA9 := hide (grow_step kH kA.out)
      clear hH kH hz8
      try clear q8 q0 q1 q2 q3
      generalize hwc : w8.alloc (.cells #[.bool s8, .slice a8 l8 c8] 25) = wc at *
      clear hwc
      generalize w8.heap.size = qz at *
      have t0 := x9.c0
      have t1 := x9.c1
      have t2 := x9.c2
      clear x z7 k7 k8 hP6 hz6 kA
      go_wp2_with fail
      refine (tvars_n hP9 hz9 hl6 (by omega)).mono ?_
      rintro e wd ⟨adv, nv, cpv, qv, rfl, hIV, hnv, hSv, hcv, kv⟩
      obtain rfl : qv = [(3, 2)] := std_unique hSv ⟨by simp, by simp⟩ hcv
      obtain ⟨hl1, hIV⟩ := hIV
      simp at hl1
      subst hl1
      rcases hIV with h | ⟨gv, rfl, hgv, hIV⟩
      · omega
      · have cv := hIV 0 (by simp)
        simp at cv
        have xd := xz.below kv
        have hzd := hzc.below kv
        have kd := hide (grow_step kv kA9.out)
        clear xz hzc x9 hP9 hz9 kA9 kv t0 t1 t2 hIV
        go_wp2_with fail
        go_region_held3 (fun w' => w'.cell? ⟨qz, 0, none⟩ = some (.bool s8) ∧ w'.cell? ⟨qz, 1, none⟩ = some (.slice a8 l8 c8) ∧ w'.cell? ⟨gv, 0, none⟩ = some (.int .i64 3) ∧ Below wd.heap.size wd w')
          ((refine zk1v xd hgv cv ?_; (repeat' (first | with_reducible exact Below.refl _ _ | with_reducible assumption | with_reducible refine grow_step (by with_reducible assumption) ?_ | with_reducible refine grow_drew ?_ | with_reducible refine grow_alloc ?_ _ | with_reducible refine grow_drewN ?_ _))))
          (first | (go_at_call 49; refine (rof_n 3 (by decide) (by decide) _).mono ?_; rintro e w' ⟨s4', a4', l4', c4', rfl, z4', hg', hl4'⟩) | (go_at_call 29; refine (ris_t (Zn.below hzd (by (repeat' (first | with_reducible exact Below.refl _ _ | with_reducible assumption | with_reducible refine grow_step (by with_reducible assumption) ?_ | with_reducible refine grow_drew ?_ | with_reducible refine grow_alloc ?_ _ | with_reducible refine grow_drewN ?_ _)))) z4'.zm (by omega) (by omega) rfl).mono ?_; rintro e w' ⟨rfl, hg'⟩))
        rename_i hH
        have kf := hide (grow_step hH.2.2.2 kd.out)
        go_wp2_with fail
        go_ret
        exact ⟨by simp, kf.out⟩
  · rename_i hH
    have kH := hH.2.2.2
    rcases hE with ⟨hn, _⟩ | ⟨_, rfl, hz8, hl8⟩
    · exact absurd hTot hn
    · rw [hval.out] at hz8
      have xz := zb_fin q8 s8 a8 l8 c8
      have hzc := zb_zn q8 hz8 s8 a8 l8 c8
      have x9 := x.below kH
      have hP9 := hP6.below kH
      have hz9 := hz6.below kH
      have kA9 := hide (grow_step kH kA.out)
      clear hH kH hz8
      try clear q8 q0 q1 q2 q3
      generalize hwc : (w8.setCell ⟨w7.heap.size + 1, 0, none⟩ (.bool s8)).setCell ⟨w7.heap.size + 1, 1, none⟩ (.slice a8 l8 c8) = wc at *
      clear hwc
      generalize w7.heap.size + 1 = qz at *
      have t0 := x9.c0
      have t1 := x9.c1
      have t2 := x9.c2
      clear x z7 k7 k8 hP6 hz6 kA
      go_wp2_with fail
      refine (tvars_n hP9 hz9 hl6 (by omega)).mono ?_
      rintro e wd ⟨adv, nv, cpv, qv, rfl, hIV, hnv, hSv, hcv, kv⟩
      obtain rfl : qv = [(3, 2)] := std_unique hSv ⟨by simp, by simp⟩ hcv
      obtain ⟨hl1, hIV⟩ := hIV
      simp at hl1
      subst hl1
      rcases hIV with h | ⟨gv, rfl, hgv, hIV⟩
      · omega
      · have cv := hIV 0 (by simp)
        simp at cv
        have xd := xz.below kv
        have hzd := hzc.below kv
        have kd := hide (grow_step kv kA9.out)
        clear xz hzc x9 hP9 hz9 kA9 kv t0 t1 t2 hIV
        go_wp2_with fail
        go_region_held3 (fun w' => w'.cell? ⟨qz, 0, none⟩ = some (.bool s8) ∧ w'.cell? ⟨qz, 1, none⟩ = some (.slice a8 l8 c8) ∧ w'.cell? ⟨gv, 0, none⟩ = some (.int .i64 3) ∧ Below wd.heap.size wd w')
          ((refine zk1v xd hgv cv ?_; (repeat' (first | with_reducible exact Below.refl _ _ | with_reducible assumption | with_reducible refine grow_step (by with_reducible assumption) ?_ | with_reducible refine grow_drew ?_ | with_reducible refine grow_alloc ?_ _ | with_reducible refine grow_drewN ?_ _))))
          (first | (go_at_call 49; refine (rof_n 3 (by decide) (by decide) _).mono ?_; rintro e w' ⟨s4', a4', l4', c4', rfl, z4', hg', hl4'⟩) | (go_at_call 29; refine (ris_t (Zn.below hzd (by (repeat' (first | with_reducible exact Below.refl _ _ | with_reducible assumption | with_reducible refine grow_step (by with_reducible assumption) ?_ | with_reducible refine grow_drew ?_ | with_reducible refine grow_alloc ?_ _ | with_reducible refine grow_drewN ?_ _)))) z4'.zm (by omega) (by omega) rfl).mono ?_; rintro e w' ⟨rfl, hg'⟩))
        rename_i hH
        have kf := hide (grow_step hH.2.2.2 kd.out)
        go_wp2_with fail
        go_ret
        exact ⟨by simp, kf.out⟩
  · rename_i hH
    have kH := hH.2.2.2
    rcases hE with ⟨hn, _⟩ | ⟨_, rfl, hz8, hl8⟩
    · exact absurd hTot hn
    · rw [hval.out] at hz8
      have xz := zb_fin q8 s8 a8 l8 c8
      have hzc := zb_zn q8 hz8 s8 a8 l8 c8
      have x9 := x.below kH
      have hP9 := hP6.below kH
      have hz9 := hz6.below kH
      have kA9 := hide (grow_step kH kA.out)
      clear hH kH hz8
      try clear q8 q0 q1 q2 q3
      generalize hwc : (w8.setCell ⟨w7.heap.size, 0, none⟩ (.bool s8)).setCell ⟨w7.heap.size, 1, none⟩ (.slice a8 l8 c8) = wc at *
      clear hwc
      generalize w7.heap.size = qz at *
      have t0 := x9.c0
      have t1 := x9.c1
      have t2 := x9.c2
      clear x z7 k7 k8 hP6 hz6 kA
      go_wp2_with fail
      refine (tvars_n hP9 hz9 hl6 (by omega)).mono ?_
      rintro e wd ⟨adv, nv, cpv, qv, rfl, hIV, hnv, hSv, hcv, kv⟩
      obtain rfl : qv = [(3, 2)] := std_unique hSv ⟨by simp, by simp⟩ hcv
      obtain ⟨hl1, hIV⟩ := hIV
      simp at hl1
      subst hl1
      rcases hIV with h | ⟨gv, rfl, hgv, hIV⟩
      · omega
      · have cv := hIV 0 (by simp)
        simp at cv
        have xd := xz.below kv
        have hzd := hzc.below kv
        have kd := hide (grow_step kv kA9.out)
        clear xz hzc x9 hP9 hz9 kA9 kv t0 t1 t2 hIV
        go_wp2_with fail
        go_region_held3 (fun w' => w'.cell? ⟨qz, 0, none⟩ = some (.bool s8) ∧ w'.cell? ⟨qz, 1, none⟩ = some (.slice a8 l8 c8) ∧ w'.cell? ⟨gv, 0, none⟩ = some (.int .i64 3) ∧ Below wd.heap.size wd w')
          ((refine zk1v xd hgv cv ?_; (repeat' (first | with_reducible exact Below.refl _ _ | with_reducible assumption | with_reducible refine grow_step (by with_reducible assumption) ?_ | with_reducible refine grow_drew ?_ | with_reducible refine grow_alloc ?_ _ | with_reducible refine grow_drewN ?_ _))))
          (first | (go_at_call 49; refine (rof_n 3 (by decide) (by decide) _).mono ?_; rintro e w' ⟨s4', a4', l4', c4', rfl, z4', hg', hl4'⟩) | (go_at_call 29; refine (ris_t (Zn.below hzd (by (repeat' (first | with_reducible exact Below.refl _ _ | with_reducible assumption | with_reducible refine grow_step (by with_reducible assumption) ?_ | with_reducible refine grow_drew ?_ | with_reducible refine grow_alloc ?_ _ | with_reducible refine grow_drewN ?_ _)))) z4'.zm (by omega) (by omega) rfl).mono ?_; rintro e w' ⟨rfl, hg'⟩))
        rename_i hH
        have kf := hide (grow_step hH.2.2.2 kd.out)
        go_wp2_with fail
        go_ret
        exact ⟨by simp, kf.out⟩
  · rename_i hH
    have kH := hH.2.2.2
    rcases hE with ⟨hn, _⟩ | ⟨_, rfl, hz8, hl8⟩
    · exact absurd hTot hn
    · rw [hval.out] at hz8
      have xz := zb_fin q8 s8 a8 l8 c8
      have hzc := zb_zn q8 hz8 s8 a8 l8 c8
      have x9 := x.below kH
      have hP9 := hP6.below kH
      have hz9 := hz6.below kH
      have kA9 := hide (grow_step kH kA.out)
      clear hH kH hz8
      try clear q8 q0 q1 q2 q3
      generalize hwc : (w8.setCell ⟨wb.heap.size, 0, none⟩ (.bool s8)).setCell ⟨wb.heap.size, 1, none⟩ (.slice a8 l8 c8) = wc at *
      clear hwc
      generalize wb.heap.size = qz at *
      have t0 := x9.c0
      have t1 := x9.c1
      have t2 := x9.c2
      clear x z7 k7 k8 hP6 hz6 kA
      go_wp2_with fail
      refine (tvars_n hP9 hz9 hl6 (by omega)).mono ?_
      rintro e wd ⟨adv, nv, cpv, qv, rfl, hIV, hnv, hSv, hcv, kv⟩
      obtain rfl : qv = [(3, 2)] := std_unique hSv ⟨by simp, by simp⟩ hcv
      obtain ⟨hl1, hIV⟩ := hIV
      simp at hl1
      subst hl1
      rcases hIV with h | ⟨gv, rfl, hgv, hIV⟩
      · omega
      · have cv := hIV 0 (by simp)
        simp at cv
        have xd := xz.below kv
        have hzd := hzc.below kv
        have kd := hide (grow_step kv kA9.out)
        clear xz hzc x9 hP9 hz9 kA9 kv t0 t1 t2 hIV
        go_wp2_with fail
        go_region_held3 (fun w' => w'.cell? ⟨qz, 0, none⟩ = some (.bool s8) ∧ w'.cell? ⟨qz, 1, none⟩ = some (.slice a8 l8 c8) ∧ w'.cell? ⟨gv, 0, none⟩ = some (.int .i64 3) ∧ Below wd.heap.size wd w')
          ((refine zk1v xd hgv cv ?_; (repeat' (first | with_reducible exact Below.refl _ _ | with_reducible assumption | with_reducible refine grow_step (by with_reducible assumption) ?_ | with_reducible refine grow_drew ?_ | with_reducible refine grow_alloc ?_ _ | with_reducible refine grow_drewN ?_ _))))
          (first | (go_at_call 49; refine (rof_n 3 (by decide) (by decide) _).mono ?_; rintro e w' ⟨s4', a4', l4', c4', rfl, z4', hg', hl4'⟩) | (go_at_call 29; refine (ris_t (Zn.below hzd (by (repeat' (first | with_reducible exact Below.refl _ _ | with_reducible assumption | with_reducible refine grow_step (by with_reducible assumption) ?_ | with_reducible refine grow_drew ?_ | with_reducible refine grow_alloc ?_ _ | with_reducible refine grow_drewN ?_ _)))) z4'.zm (by omega) (by omega) rfl).mono ?_; rintro e w' ⟨rfl, hg'⟩))
        rename_i hH
        have kf := hide (grow_step hH.2.2.2 kd.out)
        go_wp2_with fail
        go_ret
        exact ⟨by simp, kf.out⟩
end Go.Proofs.Ytpjngmllbkcclaa
