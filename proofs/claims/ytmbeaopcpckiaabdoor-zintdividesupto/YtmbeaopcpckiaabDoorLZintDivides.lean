/-
  The walk of the law ZintDivides.
-/
import Derived.Test.YtmbeaopcpckiaabDoorZ7
import Derived.Test.YtmbeaopcpckiaabDoorZD
import Derived.Test.YtmbeaopcpckiaabDoorZk
import Derived.Deep.DeepCutAuto
namespace Go.Proofs.YtmbeaopcpckiaabDoor
open Go.RowKit

set_option maxRecDepth 100000 in
set_option maxHeartbeats 3200000 in
theorem zintDivides_walk {s1 : Bool} {a1 : Option Addr} {l1 c1 : Nat} {z1 : Int} {s2 : Bool} {a2 : Option Addr} {l2 c2 : Nat} {z2 : Int} {w : World} (n1 : Zm w s1 a1 l1 c1 z1) (h1 : l1 ≤ 1048576) (n2 : Zm w s2 a2 l2 c2 z2) (h2 : l2 ≤ 1048576) (htab : Tab w) :
    Calls Tryd.prog 3 #[.agg #[.bool s1, .slice a1 l1 c1], .agg #[.bool s2, .slice a2 l2 c2]] w fun e w' => e = .returned (.bool true) ∧ Below w.heap.size w w' := by
  go_enter Tryd.func3, Tryd.ntmps3
  go_wp2_with fail
  have x1 := (zb_new w s1 a1 l1 c1).below (below_alloc _ (.cells #[.bool s2, .slice a2 l2 c2] 24))
  have x2 := zb_new (w.alloc (.cells #[.bool s1, .slice a1 l1 c1] 24)) s2 a2 l2 c2
  rw [show (w.alloc (.cells #[.bool s1, .slice a1 l1 c1] 24)).heap.size = w.heap.size + 1 from by simp] at x2
  have b0 : Below w.heap.size w ((w.alloc (.cells #[.bool s1, .slice a1 l1 c1] 24)).alloc (.cells #[.bool s2, .slice a2 l2 c2] 24)) := below_alloc' (below_alloc _ _) _
  generalize ((w.alloc (.cells #[.bool s1, .slice a1 l1 c1] 24)).alloc (.cells #[.bool s2, .slice a2 l2 c2] 24)) = wb0 at *
  replace n1 := n1.below b0
  replace n2 := n2.below b0
  replace htab := htab.below b0
  generalize w.heap.size + 1 = p2 at *
  generalize hp : w.heap.size = p1 at *
  replace hp := hide hp
  go_wp2_with fail
  refine (awake_any wb0 htab).mono ?_
  rintro e w1 ⟨rfl, k1⟩
  replace b0 := b0.trans (k1.mono (Nat.le_of_lt x1.lt))
  replace x1 := x1.below k1
  replace x2 := x2.below k1
  replace n1 := n1.below k1
  replace n2 := n2.below k1
  replace htab := htab.below k1
  clear k1
  go_upto_region 2 with (fail)
  by_cases hz : z2 = 0
  · have u1 := x1.c0
    have v1 := x1.c1
    have u2 := x2.c0
    have v2 := x2.c1
    go_wp2_with fail
    refine (zdivmod0z n1 n2 hz).mono ?_
    rintro e w2 ⟨sq, aq, lq, cq, sr, ar, lr, cr, rfl, nq, nr, k2, hq, hr⟩
    clear u1 v1 u2 v2
    replace b0 := b0.trans (k2.mono (Nat.le_of_lt x1.lt))
    replace x1 := x1.below k2
    replace x2 := x2.below k2
    replace n1 := n1.below k2
    replace n2 := n2.below k2
    replace htab := htab.below k2
    clear k2
    go_upto_region 3 with (fail)
    have xq := (zb_new w2 sq aq lq cq).below (below_alloc _ (.cells #[.bool sr, .slice ar lr cr] 24))
    have xr := zb_new (w2.alloc (.cells #[.bool sq, .slice aq lq cq] 24)) sr ar lr cr
    rw [show (w2.alloc (.cells #[.bool sq, .slice aq lq cq] 24)).heap.size = w2.heap.size + 1 from by simp] at xr
    have k0 : Below w2.heap.size w2 ((w2.alloc (.cells #[.bool sq, .slice aq lq cq] 24)).alloc (.cells #[.bool sr, .slice ar lr cr] 24)) := below_alloc' (below_alloc _ _) _
    replace b0 := b0.trans (k0.mono (Nat.le_of_lt x1.lt))
    replace x1 := x1.below k0
    replace x2 := x2.below k0
    replace n1 := n1.below k0
    replace n2 := n2.below k0
    replace nq := nq.below k0
    replace nr := nr.below k0
    replace htab := htab.below k0
    clear k0
    generalize ((w2.alloc (.cells #[.bool sq, .slice aq lq cq] 24)).alloc (.cells #[.bool sr, .slice ar lr cr] 24)) = w3 at *
    generalize w2.heap.size + 1 = pr at *
    generalize w2.heap.size = pq at *
    have u1 := x1.c0
    have v1 := x1.c1
    have u2 := x2.c0
    have v2 := x2.c1
    have uq := xq.c0
    have vq := xq.c1
    have ur := xr.c0
    have vr := xr.c1
    go_wp2_with fail
    refine (rdivmod0z n1 n2 (by omega) hz).mono ?_
    rintro e w4 ⟨sx, ax, lx, cx, sy, ay, ly, cy, rfl, nx, ny, k4, hx, hy⟩
    clear u1 v1 u2 v2 uq vq ur vr
    replace b0 := b0.trans (k4.mono (Nat.le_of_lt x1.lt))
    replace x1 := x1.below k4
    replace x2 := x2.below k4
    replace xq := xq.below k4
    replace xr := xr.below k4
    replace n1 := n1.below k4
    replace n2 := n2.below k4
    replace nq := nq.below k4
    replace nr := nr.below k4
    replace htab := htab.below k4
    clear k4
    go_upto_region 4 with (fail)
    have xx := (zb_new w4 sx ax lx cx).below (below_alloc _ (.cells #[.bool sy, .slice ay ly cy] 24))
    have xy := zb_new (w4.alloc (.cells #[.bool sx, .slice ax lx cx] 24)) sy ay ly cy
    rw [show (w4.alloc (.cells #[.bool sx, .slice ax lx cx] 24)).heap.size = w4.heap.size + 1 from by simp] at xy
    have k0 : Below w4.heap.size w4 ((w4.alloc (.cells #[.bool sx, .slice ax lx cx] 24)).alloc (.cells #[.bool sy, .slice ay ly cy] 24)) := below_alloc' (below_alloc _ _) _
    replace b0 := b0.trans (k0.mono (Nat.le_of_lt x1.lt))
    replace x1 := x1.below k0
    replace x2 := x2.below k0
    replace xq := xq.below k0
    replace xr := xr.below k0
    replace n1 := n1.below k0
    replace n2 := n2.below k0
    replace nq := nq.below k0
    replace nr := nr.below k0
    replace nx := nx.below k0
    replace ny := ny.below k0
    replace htab := htab.below k0
    clear k0
    generalize ((w4.alloc (.cells #[.bool sx, .slice ax lx cx] 24)).alloc (.cells #[.bool sy, .slice ay ly cy] 24)) = w5 at *
    generalize w4.heap.size + 1 = py at *
    generalize w4.heap.size = px at *
    have u1 := x1.c0
    have v1 := x1.c1
    have u2 := x2.c0
    have v2 := x2.c1
    have uq := xq.c0
    have vq := xq.c1
    have ur := xr.c0
    have vr := xr.c1
    have ux := xx.c0
    have vx := xx.c1
    have uy := xy.c0
    have vy := xy.c1
    go_wp2_with fail
    refine (is_t nq nx.zm (by omega) (by omega) rfl).mono ?_
    rintro e w6 ⟨rfl, k6⟩
    clear u1 v1 u2 v2 uq vq ur vr ux vx uy vy
    replace b0 := b0.trans (k6.mono (Nat.le_of_lt x1.lt))
    replace x1 := x1.below k6
    replace x2 := x2.below k6
    replace xq := xq.below k6
    replace xr := xr.below k6
    replace xx := xx.below k6
    replace xy := xy.below k6
    replace n1 := n1.below k6
    replace n2 := n2.below k6
    replace nq := nq.below k6
    replace nr := nr.below k6
    replace nx := nx.below k6
    replace ny := ny.below k6
    replace htab := htab.below k6
    clear k6
    have u1 := x1.c0
    have v1 := x1.c1
    have u2 := x2.c0
    have v2 := x2.c1
    have uq := xq.c0
    have vq := xq.c1
    have ur := xr.c0
    have vr := xr.c1
    have ux := xx.c0
    have vx := xx.c1
    have uy := xy.c0
    have vy := xy.c1
    go_wp2_with fail
    refine (is_t nr ny.zm (by omega) (by omega) rfl).mono ?_
    rintro e w7 ⟨rfl, k7⟩
    clear u1 v1 u2 v2 uq vq ur vr ux vx uy vy
    replace b0 := b0.trans (k7.mono (Nat.le_of_lt x1.lt))
    replace x1 := x1.below k7
    replace x2 := x2.below k7
    replace xq := xq.below k7
    replace xr := xr.below k7
    replace xx := xx.below k7
    replace xy := xy.below k7
    replace n1 := n1.below k7
    replace n2 := n2.below k7
    replace nq := nq.below k7
    replace nr := nr.below k7
    replace nx := nx.below k7
    replace ny := ny.below k7
    replace htab := htab.below k7
    clear k7
    go_wp2_with fail
    go_ret
    exact ⟨by simp, hp.out.symm ▸ b0⟩
  · have u1 := x1.c0
    have v1 := x1.c1
    have u2 := x2.c0
    have v2 := x2.c1
    go_wp2_with fail
    refine (zdivmod_n n1 n2 (by omega) (by omega) hz).mono ?_
    rintro e w2 ⟨sq, aq, lq, cq, sr, ar, lr, cr, qv, rv, rfl, nq, nr, hfd, k2, hq, hr⟩
    clear u1 v1 u2 v2
    replace b0 := b0.trans (k2.mono (Nat.le_of_lt x1.lt))
    replace x1 := x1.below k2
    replace x2 := x2.below k2
    replace n1 := n1.below k2
    replace n2 := n2.below k2
    replace htab := htab.below k2
    clear k2
    replace hfd := hide hfd
    go_upto_region 3 with (fail)
    have xq := (zb_new w2 sq aq lq cq).below (below_alloc _ (.cells #[.bool sr, .slice ar lr cr] 24))
    have xr := zb_new (w2.alloc (.cells #[.bool sq, .slice aq lq cq] 24)) sr ar lr cr
    rw [show (w2.alloc (.cells #[.bool sq, .slice aq lq cq] 24)).heap.size = w2.heap.size + 1 from by simp] at xr
    have k0 : Below w2.heap.size w2 ((w2.alloc (.cells #[.bool sq, .slice aq lq cq] 24)).alloc (.cells #[.bool sr, .slice ar lr cr] 24)) := below_alloc' (below_alloc _ _) _
    replace b0 := b0.trans (k0.mono (Nat.le_of_lt x1.lt))
    replace x1 := x1.below k0
    replace x2 := x2.below k0
    replace n1 := n1.below k0
    replace n2 := n2.below k0
    replace nq := nq.below k0
    replace nr := nr.below k0
    replace htab := htab.below k0
    clear k0
    generalize ((w2.alloc (.cells #[.bool sq, .slice aq lq cq] 24)).alloc (.cells #[.bool sr, .slice ar lr cr] 24)) = w3 at *
    generalize w2.heap.size + 1 = pr at *
    generalize w2.heap.size = pq at *
    have u1 := x1.c0
    have v1 := x1.c1
    have u2 := x2.c0
    have v2 := x2.c1
    have uq := xq.c0
    have vq := xq.c1
    have ur := xr.c0
    have vr := xr.c1
    go_wp2_with fail
    refine (rdivmod_n n1 n2 (by omega) (by omega) hz).mono ?_
    rintro e w4 ⟨sx, ax, lx, cx, sy, ay, ly, cy, xv, yv, rfl, nx, ny, hfe, k4, hx, hy⟩
    clear u1 v1 u2 v2 uq vq ur vr
    replace b0 := b0.trans (k4.mono (Nat.le_of_lt x1.lt))
    replace x1 := x1.below k4
    replace x2 := x2.below k4
    replace xq := xq.below k4
    replace xr := xr.below k4
    replace n1 := n1.below k4
    replace n2 := n2.below k4
    replace nq := nq.below k4
    replace nr := nr.below k4
    replace htab := htab.below k4
    clear k4
    obtain ⟨e1, e2⟩ := fd_unique (unhide hfd) hfe
    replace e1 := hide e1
    replace e2 := hide e2
    clear hfe
    go_upto_region 4 with (fail)
    have xx := (zb_new w4 sx ax lx cx).below (below_alloc _ (.cells #[.bool sy, .slice ay ly cy] 24))
    have xy := zb_new (w4.alloc (.cells #[.bool sx, .slice ax lx cx] 24)) sy ay ly cy
    rw [show (w4.alloc (.cells #[.bool sx, .slice ax lx cx] 24)).heap.size = w4.heap.size + 1 from by simp] at xy
    have k0 : Below w4.heap.size w4 ((w4.alloc (.cells #[.bool sx, .slice ax lx cx] 24)).alloc (.cells #[.bool sy, .slice ay ly cy] 24)) := below_alloc' (below_alloc _ _) _
    replace b0 := b0.trans (k0.mono (Nat.le_of_lt x1.lt))
    replace x1 := x1.below k0
    replace x2 := x2.below k0
    replace xq := xq.below k0
    replace xr := xr.below k0
    replace n1 := n1.below k0
    replace n2 := n2.below k0
    replace nq := nq.below k0
    replace nr := nr.below k0
    replace nx := nx.below k0
    replace ny := ny.below k0
    replace htab := htab.below k0
    clear k0
    generalize ((w4.alloc (.cells #[.bool sx, .slice ax lx cx] 24)).alloc (.cells #[.bool sy, .slice ay ly cy] 24)) = w5 at *
    generalize w4.heap.size + 1 = py at *
    generalize w4.heap.size = px at *
    have u1 := x1.c0
    have v1 := x1.c1
    have u2 := x2.c0
    have v2 := x2.c1
    have uq := xq.c0
    have vq := xq.c1
    have ur := xr.c0
    have vr := xr.c1
    have ux := xx.c0
    have vx := xx.c1
    have uy := xy.c0
    have vy := xy.c1
    go_wp2_with fail
    refine (is_t nq nx.zm (by omega) (by omega) (unhide e1)).mono ?_
    rintro e w6 ⟨rfl, k6⟩
    clear u1 v1 u2 v2 uq vq ur vr ux vx uy vy
    replace b0 := b0.trans (k6.mono (Nat.le_of_lt x1.lt))
    replace x1 := x1.below k6
    replace x2 := x2.below k6
    replace xq := xq.below k6
    replace xr := xr.below k6
    replace xx := xx.below k6
    replace xy := xy.below k6
    replace n1 := n1.below k6
    replace n2 := n2.below k6
    replace nq := nq.below k6
    replace nr := nr.below k6
    replace nx := nx.below k6
    replace ny := ny.below k6
    replace htab := htab.below k6
    clear k6
    have u1 := x1.c0
    have v1 := x1.c1
    have u2 := x2.c0
    have v2 := x2.c1
    have uq := xq.c0
    have vq := xq.c1
    have ur := xr.c0
    have vr := xr.c1
    have ux := xx.c0
    have vx := xx.c1
    have uy := xy.c0
    have vy := xy.c1
    go_wp2_with fail
    refine (is_t nr ny.zm (by omega) (by omega) (unhide e2)).mono ?_
    rintro e w7 ⟨rfl, k7⟩
    clear u1 v1 u2 v2 uq vq ur vr ux vx uy vy
    replace b0 := b0.trans (k7.mono (Nat.le_of_lt x1.lt))
    replace x1 := x1.below k7
    replace x2 := x2.below k7
    replace xq := xq.below k7
    replace xr := xr.below k7
    replace xx := xx.below k7
    replace xy := xy.below k7
    replace n1 := n1.below k7
    replace n2 := n2.below k7
    replace nq := nq.below k7
    replace nr := nr.below k7
    replace nx := nx.below k7
    replace ny := ny.below k7
    replace htab := htab.below k7
    clear k7
    go_wp2_with fail
    go_ret
    exact ⟨by simp, hp.out.symm ▸ b0⟩
end Go.Proofs.YtmbeaopcpckiaabDoor
