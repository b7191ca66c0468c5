/-
  Layer 7: Node of a meter.
-/
import Derived.Test.YtofjjpkbildagaaM5
namespace Go.Proofs.Ytofjjpkbildagaa
open Go.RowKit Mt

set_option maxRecDepth 100000 in
set_option maxHeartbeats 1600000 in
theorem node1_n {w : World} {bn bm b : Nat} {n k c c2 e : Int} (h : MB w b n k c2 e) (hc : 0 ≤ c) (hcn : c ≤ n) (hn : n ≤ 2000) (hx : BX w bn (.bool false) 4) (hm : BX w bm (.pointer (some ⟨b, 0, none⟩)) 22) :
    Calls Try.prog 28 (#[.agg #[.int .i64 c, .int .i64 0]] ++ #[.pointer (some ⟨bn, 0, none⟩), .pointer (some ⟨bm, 0, none⟩)]) w fun x w' =>
      x = .returned (.tuple #[.agg #[.int .i64 (if n - c < 1 then c else c + 1), .int .i64 (if n - c < 1 then 70 else 0)], .int .i64 (if n - c < 1 then 70 else 0)]) ∧ Below w.heap.size w w' := by
  show Calls Try.prog 28 #[.agg #[.int .i64 c, .int .i64 0], .pointer (some ⟨bn, 0, none⟩), .pointer (some ⟨bm, 0, none⟩)] w _
  generalize hr1 : (if n - c < 1 then c else c + 1) = r1
  generalize hr2 : (if n - c < 1 then (70 : Int) else 0) = r2
  replace hr1 := hide hr1
  replace hr2 := hide hr2
  have x0 := hx.c0
  have x1 := hx.lt
  have b0 := step7 (below_alloc7 (w.alloc (.cells #[.int .i64 c, .int .i64 0] 61)) (.cells #[.int .i64 0, .int .i64 0] 61)) (below_alloc7 w _)
  have x := (TL7.new w c 0).below (below_alloc7 _ (.cells #[.int .i64 0, .int .i64 0] 61))
  have y := TL7.new (w.alloc (.cells #[.int .i64 c, .int .i64 0] 61)) 0 0
  rw [show (w.alloc (.cells #[.int .i64 c, .int .i64 0] 61)).heap.size = w.heap.size + 1 from by simp] at y
  have hb := h.below b0
  have hxb := hx.below b0
  have hmb := hm.below b0
  have hxx := hide (And.intro x y)
  have hbb := hide (And.intro b0 (And.intro hb (And.intro hxb hmb)))
  clear x y hb hxb hmb b0
  go_enter Try.func28, Try.ntmps28
  go_wp2_with fail
  obtain ⟨x, y⟩ := hxx.out
  obtain ⟨b0, hb, hxb, hmb⟩ := hbb.out
  have m1 := hx.lt
  have m2 := hm.lt
  have m3 := h.lt
  clear hxx hbb x0 x1 hx hm h
  have n1 : w.heap.size ≠ w.heap.size + 1 := by omega
  have n2 : b ≠ w.heap.size + 1 := by omega
  have n3 : bn ≠ w.heap.size + 1 := by omega
  have n4 : bm ≠ w.heap.size + 1 := by omega
  clear m1 m2 m3
  generalize (w.alloc (.cells #[.int .i64 c, .int .i64 0] 61)).alloc (.cells #[.int .i64 0, .int .i64 0] 61) = wb at *
  have hr : w.heap.size ≤ w.heap.size + 1 := by omega
  generalize w.heap.size + 1 = r at *
  generalize hp : w.heap.size = p at *
  replace hp := hide hp
  have x0 := x.c0
  have x1 := x.c1
  have y0 := hb.c0
  have q0 := hxb.c0
  have q1 := hmb.c0
  go_region_with (go_at_call 25; with_reducible refine (count_n hc hcn hn (by decide)).mono ?_; rintro x w6 ⟨rfl, hg⟩; rw [hr1.out, hr2.out]; have z0 := (TL7.below y (show Below wb.heap.size wb w6 by (repeat' (first | with_reducible exact Below.refl _ _ | with_reducible assumption | with_reducible refine step7 (by with_reducible assumption) ?_ | with_reducible refine g7_drew ?_ | with_reducible refine g7_alloc ?_ _ | with_reducible refine g7_drewN ?_ _)))).c0; have z1 := (TL7.below y (show Below wb.heap.size wb w6 by (repeat' (first | with_reducible exact Below.refl _ _ | with_reducible assumption | with_reducible refine step7 (by with_reducible assumption) ?_ | with_reducible refine g7_drew ?_ | with_reducible refine g7_alloc ?_ _ | with_reducible refine g7_drewN ?_ _)))).c1; have z2 := (TL7.below y (show Below wb.heap.size wb w6 by (repeat' (first | with_reducible exact Below.refl _ _ | with_reducible assumption | with_reducible refine step7 (by with_reducible assumption) ?_ | with_reducible refine g7_drew ?_ | with_reducible refine g7_alloc ?_ _ | with_reducible refine g7_drewN ?_ _)))).f 0; have z3 := (TL7.below y (show Below wb.heap.size wb w6 by (repeat' (first | with_reducible exact Below.refl _ _ | with_reducible assumption | with_reducible refine step7 (by with_reducible assumption) ?_ | with_reducible refine g7_drew ?_ | with_reducible refine g7_alloc ?_ _ | with_reducible refine g7_drewN ?_ _)))).f 1)
  all_goals
    have k6 : Below wb.heap.size wb w6 := (by (repeat' (first | with_reducible exact Below.refl _ _ | with_reducible assumption | with_reducible refine step7 (by with_reducible assumption) ?_ | with_reducible refine g7_drew ?_ | with_reducible refine g7_alloc ?_ _ | with_reducible refine g7_drewN ?_ _)))
    have kf := hide (((b0.trans (k6.mono (hp.out ▸ b0.size))).setCell (p := ⟨r, 0, none⟩) hr (.int .i64 r1)).setCell (p := ⟨r, 1, none⟩) hr (.int .i64 r2))
    have yf := hide ((y.below k6).set r1 r2)
    clear b0 hg
    go_wp2
    refine bodyPost_ret (results_ct7 rfl _ _ r 61 _ (0, 0) _ rfl yf.out Try.underlying61 rfl (by kernel_rfl)) rfl ?_
    exact ⟨rfl, hp.out ▸ kf.out⟩

end Go.Proofs.Ytofjjpkbildagaa
