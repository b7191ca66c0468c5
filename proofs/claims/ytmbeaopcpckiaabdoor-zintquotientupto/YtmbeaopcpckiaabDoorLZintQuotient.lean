/-
  The walk of the law ZintQuotient.
-/
import Derived.Test.YtmbeaopcpckiaabDoorZ7
import Derived.Test.YtmbeaopcpckiaabDoorZk
import Derived.Deep.DeepCutAuto
namespace Go.Proofs.YtmbeaopcpckiaabDoor
open Go.RowKit

theorem zbA {w : World} {b l c : Nat} {s : Bool} {a : Option Addr} (h : ZB w b s a l c) (o : Obj) : ZB (w.alloc o) b s a l c := h.below (below_alloc _ _)
theorem znA {w : World} {l c : Nat} {s : Bool} {a : Option Addr} {z : Int} (h : Zn w s a l c z) (o : Obj) : Zn (w.alloc o) s a l c z := h.below (below_alloc _ _)
theorem zbO {w : World} {b b' l c : Nat} {s : Bool} {a : Option Addr} {v v' : Value} (h : ZB w b s a l c) (hne : b ≠ b') : ZB ((w.setCell ⟨b', 0, none⟩ v).setCell ⟨b', 1, none⟩ v') b s a l c := h.only (only2 b' w v v') hne
theorem zb_newT (w : World) (q q' : Addr) (v v' : Value) (s : Bool) (a : Option Addr) (l c : Nat) : ZB (((w.setCell q v).setCell q' v').alloc (.cells #[.bool s, .slice a l c] 24)) w.heap.size s a l c := by
  have h := zb_new ((w.setCell q v).setCell q' v') s a l c
  rwa [show ((w.setCell q v).setCell q' v').heap.size = w.heap.size from by simp] at h
theorem zb_newS (w : World) (o : Obj) (s : Bool) (a : Option Addr) (l c : Nat) : ZB ((w.alloc o).alloc (.cells #[.bool s, .slice a l c] 24)) (w.heap.size + 1) s a l c := by
  have h := zb_new (w.alloc o) s a l c
  rwa [show (w.alloc o).heap.size = w.heap.size + 1 from by simp] at h
theorem grow_set {w0 w : World} {b i : Nat} (h : Below w0.heap.size w0 w) (hb : w0.heap.size ≤ b) (v : Value) : Below w0.heap.size w0 (w.setCell ⟨b, i, none⟩ v) := h.setCell hb v
theorem hthen {p q : Prop} (h : p) (k : p → q) : q := k h
theorem zb_new' (w : World) : ZB ((w.alloc (.cells #[.bool false, .slice none 0 0] 24)).alloc (.cells #[.bool false, .slice none 0 0] 24)) (w.heap.size + 1) false none 0 0 := by
  have h := zb_new (w.alloc (.cells #[.bool false, .slice none 0 0] 24)) false none 0 0
  rwa [show (w.alloc (.cells #[.bool false, .slice none 0 0] 24)).heap.size = w.heap.size + 1 from by simp] at h

set_option maxRecDepth 100000 in
set_option maxHeartbeats 3200000 in
theorem zintQuotient_walk {s1 : Bool} {a1 : Option Addr} {l1 c1 : Nat} {z1 : Int} {s2 : Bool} {a2 : Option Addr} {l2 c2 : Nat} {z2 : Int} {w : World} (n1 : Zm w s1 a1 l1 c1 z1) (h1 : l1 ≤ 1048576) (n2 : Zm w s2 a2 l2 c2 z2) (h2 : l2 ≤ 1048576) (htab : Tab w) :
    Calls Tryd.prog 6 #[.agg #[.bool s1, .slice a1 l1 c1], .agg #[.bool s2, .slice a2 l2 c2]] w fun e w' => e = .returned (.bool true) ∧ Below w.heap.size w w' := by
  go_enter Tryd.func6, Tryd.ntmps6
  go_wp2_with fail
  have x1 := (zb_new w s1 a1 l1 c1).below (below_alloc _ (.cells #[.bool s2, .slice a2 l2 c2] 24))
  have x2 := zb_new (w.alloc (.cells #[.bool s1, .slice a1 l1 c1] 24)) s2 a2 l2 c2
  rw [show (w.alloc (.cells #[.bool s1, .slice a1 l1 c1] 24)).heap.size = w.heap.size + 1 from by simp] at x2
  have b0 : Below w.heap.size w ((w.alloc (.cells #[.bool s1, .slice a1 l1 c1] 24)).alloc (.cells #[.bool s2, .slice a2 l2 c2] 24)) := below_alloc' (below_alloc _ _) _
  generalize ((w.alloc (.cells #[.bool s1, .slice a1 l1 c1] 24)).alloc (.cells #[.bool s2, .slice a2 l2 c2] 24)) = wb0 at *
  replace n1 := n1.below b0
  replace n2 := n2.below b0
  replace htab := htab.below b0
  generalize w.heap.size + 1 = p2 at *
  generalize hp : w.heap.size = p1 at *
  replace hp := hide hp
  go_wp2_with fail
  refine (awake_any wb0 htab).mono ?_
  rintro e w1 ⟨rfl, k1⟩
  replace b0 := b0.trans (k1.mono (Nat.le_of_lt x1.lt))
  replace x1 := x1.below k1
  replace x2 := x2.below k1
  replace n1 := n1.below k1
  replace n2 := n2.below k1
  replace htab := htab.below k1
  clear k1
  go_upto_region 2 with (fail)
  by_cases hz : z2 = 0
  · have u1 := x1.c0
    have v1 := x1.c1
    have u2 := x2.c0
    have v2 := x2.c1
    go_wp2_with fail
    refine (zdivmod0' n1 n2 hz).mono ?_
    rintro e w2 ⟨sq, aq, lq, cq, sr, ar, lr, cr, rfl, k2, hlq, hlr⟩
    clear u1 v1 u2 v2
    replace b0 := b0.trans (k2.mono (Nat.le_of_lt x1.lt))
    replace x1 := x1.below k2
    replace x2 := x2.below k2
    replace n1 := n1.below k2
    replace n2 := n2.below k2
    replace htab := htab.below k2
    clear k2
    subst hlq hlr
    go_upto_region 3 with (fail)
    have xq := (zb_new w2 sq aq 0 cq).below (below_alloc _ (.cells #[.bool sr, .slice ar 0 cr] 24))
    have xr := zb_new (w2.alloc (.cells #[.bool sq, .slice aq 0 cq] 24)) sr ar 0 cr
    rw [show (w2.alloc (.cells #[.bool sq, .slice aq 0 cq] 24)).heap.size = w2.heap.size + 1 from by simp] at xr
    have k0 : Below w2.heap.size w2 ((w2.alloc (.cells #[.bool sq, .slice aq 0 cq] 24)).alloc (.cells #[.bool sr, .slice ar 0 cr] 24)) := below_alloc' (below_alloc _ _) _
    replace b0 := b0.trans (k0.mono (Nat.le_of_lt x1.lt))
    replace x1 := x1.below k0
    replace x2 := x2.below k0
    replace n1 := n1.below k0
    replace n2 := n2.below k0
    replace htab := htab.below k0
    clear k0
    generalize ((w2.alloc (.cells #[.bool sq, .slice aq 0 cq] 24)).alloc (.cells #[.bool sr, .slice ar 0 cr] 24)) = w3 at *
    generalize w2.heap.size + 1 = pr at *
    generalize w2.heap.size = pq at *
    have u1 := x1.c0
    have v1 := x1.c1
    have u2 := x2.c0
    have v2 := x2.c1
    have uq := xq.c0
    have vq := xq.c1
    have ur := xr.c0
    have vr := xr.c1
    go_wp2_with fail
    refine (zsign_n n2 (by omega)).mono ?_
    rintro e w4 ⟨rfl, k4⟩
    clear u1 v1 u2 v2 uq vq ur vr
    replace b0 := b0.trans (k4.mono (Nat.le_of_lt x1.lt))
    replace x1 := x1.below k4
    replace x2 := x2.below k4
    replace xq := xq.below k4
    replace xr := xr.below k4
    replace n1 := n1.below k4
    replace n2 := n2.below k4
    replace htab := htab.below k4
    clear k4
    rw [cmpI_eq hz]
    have uq := xq.c0
    have vq := xq.c1
    have ur := xr.c0
    have vr := xr.c1
    go_wp2_with fail
    go_ret
    exact ⟨by simp, hp.out.symm ▸ b0⟩
  · have u1 := x1.c0
    have v1 := x1.c1
    have u2 := x2.c0
    have v2 := x2.c1
    go_wp2_with fail
    refine (zdivmod_n n1 n2 (by omega) (by omega) hz).mono ?_
    rintro e w2 ⟨sq, aq, lq, cq, sr, ar, lr, cr, qv, rv, rfl, Nq, Nr, hfd, k2, hq, hr⟩
    clear u1 v1 u2 v2
    replace b0 := b0.trans (k2.mono (Nat.le_of_lt x1.lt))
    replace x1 := x1.below k2
    replace x2 := x2.below k2
    replace n1 := n1.below k2
    replace n2 := n2.below k2
    replace htab := htab.below k2
    clear k2
    have nq := Nq.zm
    have nr := Nr.zm
    clear Nq Nr
    have hside := hide (fd_side hfd)
    have hv9 := cmpI_ne hz
    have hb9 := cmpI_bd z2 0
    replace hfd := hide hfd
    go_upto_region 3 with (fail)
    have xq := (zb_new w2 sq aq lq cq).below (below_alloc _ (.cells #[.bool sr, .slice ar lr cr] 24))
    have xr := zb_new (w2.alloc (.cells #[.bool sq, .slice aq lq cq] 24)) sr ar lr cr
    rw [show (w2.alloc (.cells #[.bool sq, .slice aq lq cq] 24)).heap.size = w2.heap.size + 1 from by simp] at xr
    have k0 : Below w2.heap.size w2 ((w2.alloc (.cells #[.bool sq, .slice aq lq cq] 24)).alloc (.cells #[.bool sr, .slice ar lr cr] 24)) := below_alloc' (below_alloc _ _) _
    replace b0 := b0.trans (k0.mono (Nat.le_of_lt x1.lt))
    replace x1 := x1.below k0
    replace x2 := x2.below k0
    replace n1 := n1.below k0
    replace n2 := n2.below k0
    replace nq := nq.below k0
    replace nr := nr.below k0
    replace htab := htab.below k0
    clear k0
    generalize ((w2.alloc (.cells #[.bool sq, .slice aq lq cq] 24)).alloc (.cells #[.bool sr, .slice ar lr cr] 24)) = w3 at *
    generalize w2.heap.size + 1 = pr at *
    generalize w2.heap.size = pq at *
    have u1 := x1.c0
    have v1 := x1.c1
    have u2 := x2.c0
    have v2 := x2.c1
    have uq := xq.c0
    have vq := xq.c1
    have ur := xr.c0
    have vr := xr.c1
    go_wp2_with fail
    refine (zsign_n n2 (by omega)).mono ?_
    rintro e w4 ⟨rfl, k4⟩
    clear u1 v1 u2 v2 uq vq ur vr
    replace b0 := b0.trans (k4.mono (Nat.le_of_lt x1.lt))
    replace x1 := x1.below k4
    replace x2 := x2.below k4
    replace xq := xq.below k4
    replace xr := xr.below k4
    replace n1 := n1.below k4
    replace n2 := n2.below k4
    replace nq := nq.below k4
    replace nr := nr.below k4
    replace htab := htab.below k4
    clear k4
    generalize cmpI z2 0 = v9 at *
    go_upto_region 6 with (fail)
    go_region_held3 (fun w' => w'.cell? ⟨p1, 0, none⟩ = some (.bool s1) ∧ w'.cell? ⟨p1, 1, none⟩ = some (.slice a1 l1 c1) ∧ w'.cell? ⟨p2, 0, none⟩ = some (.bool s2) ∧ w'.cell? ⟨p2, 1, none⟩ = some (.slice a2 l2 c2) ∧ w'.cell? ⟨pq, 0, none⟩ = some (.bool sq) ∧ w'.cell? ⟨pq, 1, none⟩ = some (.slice aq lq cq) ∧ w'.cell? ⟨pr, 0, none⟩ = some (.bool sr) ∧ w'.cell? ⟨pr, 1, none⟩ = some (.slice ar lr cr) ∧ Below w4.heap.size w4 w')
      ((refine zk4 x1 x2 xq xr ?_; (repeat' (first | with_reducible exact Below.refl _ _ | with_reducible assumption | with_reducible refine grow_step (by with_reducible assumption) ?_ | with_reducible refine grow_drew ?_ | with_reducible refine grow_alloc ?_ _ | with_reducible refine grow_drewN ?_ _))))
      (first | (go_at_call 20; with_reducible refine (zmul_n (Zm.below nq (by (repeat' (first | with_reducible exact Below.refl _ _ | with_reducible assumption | with_reducible refine grow_step (by with_reducible assumption) ?_ | with_reducible refine grow_drew ?_ | with_reducible refine grow_alloc ?_ _ | with_reducible refine grow_drewN ?_ _)))) (Zm.below n2 (by (repeat' (first | with_reducible exact Below.refl _ _ | with_reducible assumption | with_reducible refine grow_step (by with_reducible assumption) ?_ | with_reducible refine grow_drew ?_ | with_reducible refine grow_alloc ?_ _ | with_reducible refine grow_drewN ?_ _)))) (by omega) (by omega)).mono ?_; rintro e w' ⟨sA, aA, lA, cA, rfl, nA, hg, hA⟩) | (go_at_call 18; with_reducible refine (zadd_n (Zn.zm (Zn.below nA (by (repeat' (first | with_reducible exact Below.refl _ _ | with_reducible assumption | with_reducible refine grow_step (by with_reducible assumption) ?_ | with_reducible refine grow_drew ?_ | with_reducible refine grow_alloc ?_ _ | with_reducible refine grow_drewN ?_ _))))) (Zm.below nr (by (repeat' (first | with_reducible exact Below.refl _ _ | with_reducible assumption | with_reducible refine grow_step (by with_reducible assumption) ?_ | with_reducible refine grow_drew ?_ | with_reducible refine grow_alloc ?_ _ | with_reducible refine grow_drewN ?_ _)))) (by omega) (by omega)).mono ?_; rintro e w' ⟨sB, aB, lB, cB, rfl, nB, hg, hB⟩) | (go_at_call 19; with_reducible refine (zcmp_0 (Zn.zm (Zn.below nB (by (repeat' (first | with_reducible exact Below.refl _ _ | with_reducible assumption | with_reducible refine grow_step (by with_reducible assumption) ?_ | with_reducible refine grow_drew ?_ | with_reducible refine grow_alloc ?_ _ | with_reducible refine grow_drewN ?_ _))))) (Zm.below n1 (by (repeat' (first | with_reducible exact Below.refl _ _ | with_reducible assumption | with_reducible refine grow_step (by with_reducible assumption) ?_ | with_reducible refine grow_drew ?_ | with_reducible refine grow_alloc ?_ _ | with_reducible refine grow_drewN ?_ _)))) (by omega) (by omega) (fd_eq (unhide hfd))).mono ?_; rintro e w' ⟨rfl, hg⟩))
    rename_i hH
    have k5 := hH.2.2.2.2.2.2.2.2
    clear hH
    replace b0 := b0.trans (k5.mono (Nat.le_of_lt x1.lt))
    replace x1 := x1.below k5
    replace x2 := x2.below k5
    replace xq := xq.below k5
    replace xr := xr.below k5
    replace n1 := n1.below k5
    replace n2 := n2.below k5
    replace nq := nq.below k5
    replace nr := nr.below k5
    replace htab := htab.below k5
    clear k5 hg
    generalize w' = w6 at *
    go_upto_region 7 with (fail)
    have u1 := x1.c0
    have v1 := x1.c1
    have u2 := x2.c0
    have v2 := x2.c1
    have uq := xq.c0
    have vq := xq.c1
    have ur := xr.c0
    have vr := xr.c1
    go_wp2_with fail
    refine (zsign_n nr (by omega)).mono ?_
    rintro e w7 ⟨rfl, k7⟩
    clear u1 v1 u2 v2 uq vq ur vr
    replace b0 := b0.trans (k7.mono (Nat.le_of_lt x1.lt))
    replace x1 := x1.below k7
    replace x2 := x2.below k7
    replace xq := xq.below k7
    replace xr := xr.below k7
    replace n1 := n1.below k7
    replace n2 := n2.below k7
    replace nq := nq.below k7
    replace nr := nr.below k7
    replace htab := htab.below k7
    clear k7
    generalize cmpI rv 0 = v11 at *
    go_upto_region 8 with (fail)
    go_region_held3 (fun w' => w'.cell? ⟨p1, 0, none⟩ = some (.bool s1) ∧ w'.cell? ⟨p1, 1, none⟩ = some (.slice a1 l1 c1) ∧ w'.cell? ⟨p2, 0, none⟩ = some (.bool s2) ∧ w'.cell? ⟨p2, 1, none⟩ = some (.slice a2 l2 c2) ∧ w'.cell? ⟨pq, 0, none⟩ = some (.bool sq) ∧ w'.cell? ⟨pq, 1, none⟩ = some (.slice aq lq cq) ∧ w'.cell? ⟨pr, 0, none⟩ = some (.bool sr) ∧ w'.cell? ⟨pr, 1, none⟩ = some (.slice ar lr cr) ∧ Below w7.heap.size w7 w')
      ((refine zk4 x1 x2 xq xr ?_; (repeat' (first | with_reducible exact Below.refl _ _ | with_reducible assumption | with_reducible refine grow_step (by with_reducible assumption) ?_ | with_reducible refine grow_drew ?_ | with_reducible refine grow_alloc ?_ _ | with_reducible refine grow_drewN ?_ _))))
      (first | (go_at_call 24; with_reducible refine (abs_n (Zm.below nr (by (repeat' (first | with_reducible exact Below.refl _ _ | with_reducible assumption | with_reducible refine grow_step (by with_reducible assumption) ?_ | with_reducible refine grow_drew ?_ | with_reducible refine grow_alloc ?_ _ | with_reducible refine grow_drewN ?_ _)))) (by omega)).mono ?_; rintro e w' ⟨sA, aA, lA, cA, rfl, nA, hg, hA⟩) | (go_at_call 24; with_reducible refine (abs_n (Zm.below n2 (by (repeat' (first | with_reducible exact Below.refl _ _ | with_reducible assumption | with_reducible refine grow_step (by with_reducible assumption) ?_ | with_reducible refine grow_drew ?_ | with_reducible refine grow_alloc ?_ _ | with_reducible refine grow_drewN ?_ _)))) (by omega)).mono ?_; rintro e w' ⟨sB, aB, lB, cB, rfl, nB, hg, hB⟩) | (go_at_call 19; with_reducible refine (zcmp_lt (Zn.zm (Zn.below nA (by (repeat' (first | with_reducible exact Below.refl _ _ | with_reducible assumption | with_reducible refine grow_step (by with_reducible assumption) ?_ | with_reducible refine grow_drew ?_ | with_reducible refine grow_alloc ?_ _ | with_reducible refine grow_drewN ?_ _))))) (Zn.zm (Zn.below nB (by (repeat' (first | with_reducible exact Below.refl _ _ | with_reducible assumption | with_reducible refine grow_step (by with_reducible assumption) ?_ | with_reducible refine grow_drew ?_ | with_reducible refine grow_alloc ?_ _ | with_reducible refine grow_drewN ?_ _))))) (by omega) (by omega) (fd_near (unhide hfd))).mono ?_; rintro e w' ⟨rfl, hg⟩))
    rename_i hH
    have k8 := hH.2.2.2.2.2.2.2.2
    clear hH
    replace b0 := b0.trans (k8.mono (Nat.le_of_lt x1.lt))
    replace x1 := x1.below k8
    replace x2 := x2.below k8
    replace xq := xq.below k8
    replace xr := xr.below k8
    replace n1 := n1.below k8
    replace n2 := n2.below k8
    replace nq := nq.below k8
    replace nr := nr.below k8
    replace htab := htab.below k8
    clear k8 hg
    generalize w' = w9 at *
    go_upto_region 9 with (fail)
    go_cut [13, 14, 15] (fun t13 t14 t15 wc => ∃ (px py : Nat) (sx : Bool) (ax : Option Addr) (lx cx : Nat) (sy : Bool) (ay : Option Addr) (ly cy : Nat) (xv yv : Int), t13 = .pointer (some ⟨px, 0, none⟩) ∧ t14 = .pointer (some ⟨py, 0, none⟩) ∧ t15 = .int .i64 0 ∧ ZB wc px sx ax lx cx ∧ ZB wc py sy ay ly cy ∧ Zn wc sx ax lx cx xv ∧ Zn wc sy ay ly cy yv ∧ FD (z1 + z2) z2 xv yv ∧ lx ≤ max l1 l2 + 4 ∧ ly ≤ l2 ∧ Below w9.heap.size w9 wc)
    case first =>
      go_region_held3 (fun w' => w'.cell? ⟨p1, 0, none⟩ = some (.bool s1) ∧ w'.cell? ⟨p1, 1, none⟩ = some (.slice a1 l1 c1) ∧ w'.cell? ⟨p2, 0, none⟩ = some (.bool s2) ∧ w'.cell? ⟨p2, 1, none⟩ = some (.slice a2 l2 c2) ∧ w'.cell? ⟨pq, 0, none⟩ = some (.bool sq) ∧ w'.cell? ⟨pq, 1, none⟩ = some (.slice aq lq cq) ∧ w'.cell? ⟨pr, 0, none⟩ = some (.bool sr) ∧ w'.cell? ⟨pr, 1, none⟩ = some (.slice ar lr cr) ∧ Below w9.heap.size w9 w')
        ((refine zk4 x1 x2 xq xr ?_; (repeat' (first | with_reducible exact Below.refl _ _ | with_reducible assumption | with_reducible refine grow_step (by with_reducible assumption) ?_ | with_reducible refine grow_drew ?_ | with_reducible refine grow_alloc ?_ _ | with_reducible refine grow_drewN ?_ _ | (with_reducible refine grow_set ?_ ?_ _; rotate_left; (focus (omega; done)))))))
        (first | (go_at_call 18; with_reducible refine (zadd_n (Zm.below n1 (by (repeat' (first | with_reducible exact Below.refl _ _ | with_reducible assumption | with_reducible refine grow_step (by with_reducible assumption) ?_ | with_reducible refine grow_drew ?_ | with_reducible refine grow_alloc ?_ _ | with_reducible refine grow_drewN ?_ _)))) (Zm.below n2 (by (repeat' (first | with_reducible exact Below.refl _ _ | with_reducible assumption | with_reducible refine grow_step (by with_reducible assumption) ?_ | with_reducible refine grow_drew ?_ | with_reducible refine grow_alloc ?_ _ | with_reducible refine grow_drewN ?_ _)))) (by omega) (by omega)).mono ?_; rintro e wA ⟨sA, aA, lA, cA, rfl, nA, hg, hA⟩; have szA := Below.size (show Below w9.heap.size w9 wA by (repeat' (first | with_reducible exact Below.refl _ _ | with_reducible assumption | with_reducible refine grow_step (by with_reducible assumption) ?_ | with_reducible refine grow_drew ?_ | with_reducible refine grow_alloc ?_ _ | with_reducible refine grow_drewN ?_ _))); (try (refine hthen (p := ZB wA w9.heap.size false none 0 0) ?_ ?_; (focus (refine ZB.below (zb_new w9 false none 0 0) ?_; (repeat' (first | with_reducible exact Below.refl _ _ | with_reducible assumption | with_reducible refine grow_step (by with_reducible assumption) ?_ | with_reducible refine grow_drew ?_ | with_reducible refine grow_alloc ?_ _ | with_reducible refine grow_drewN ?_ _)); done)); intro Y1)); (try (refine hthen (p := ZB wA (w9.heap.size + 1) false none 0 0) ?_ ?_; (focus (refine ZB.below (zb_new' w9) ?_; (repeat' (first | with_reducible exact Below.refl _ _ | with_reducible assumption | with_reducible refine grow_step (by with_reducible assumption) ?_ | with_reducible refine grow_drew ?_ | with_reducible refine grow_alloc ?_ _ | with_reducible refine grow_drewN ?_ _)); done)); intro Y2))) | (go_at_call 8; with_reducible refine (zdivmod_n (Zn.zm (Zn.below nA (by (repeat' (first | with_reducible exact Below.refl _ _ | with_reducible assumption | with_reducible refine grow_step (by with_reducible assumption) ?_ | with_reducible refine grow_drew ?_ | with_reducible refine grow_alloc ?_ _ | with_reducible refine grow_drewN ?_ _))))) (Zm.below n2 (by (repeat' (first | with_reducible exact Below.refl _ _ | with_reducible assumption | with_reducible refine grow_step (by with_reducible assumption) ?_ | with_reducible refine grow_drew ?_ | with_reducible refine grow_alloc ?_ _ | with_reducible refine grow_drewN ?_ _)))) (by omega) (by omega) hz).mono ?_; rintro e wB ⟨sx, ax, lx, cx, sy, ay, ly, cy, xv, yv, rfl, Nx, Ny, hfe, hg', hx, hy⟩; (try (refine hthen (p := ZB wB w9.heap.size false none 0 0) ?_ ?_; (focus (refine ZB.below Y1 ?_; (repeat' (first | with_reducible exact Below.refl _ _ | with_reducible assumption | with_reducible refine grow_step (by with_reducible assumption) ?_ | with_reducible refine grow_drew ?_ | with_reducible refine grow_alloc ?_ _ | with_reducible refine grow_drewN ?_ _)); done)); intro y1)); (try (refine hthen (p := ZB wB (w9.heap.size + 1) false none 0 0) ?_ ?_; (focus (refine ZB.below Y2 ?_; (repeat' (first | with_reducible exact Below.refl _ _ | with_reducible assumption | with_reducible refine grow_step (by with_reducible assumption) ?_ | with_reducible refine grow_drew ?_ | with_reducible refine grow_alloc ?_ _ | with_reducible refine grow_drewN ?_ _)); done)); intro y2)); (try (refine hthen (p := ZB wB wA.heap.size false none 0 0) ?_ ?_; (focus (refine ZB.below (zb_new wA false none 0 0) ?_; (repeat' (first | with_reducible exact Below.refl _ _ | with_reducible assumption | with_reducible refine grow_step (by with_reducible assumption) ?_ | with_reducible refine grow_drew ?_ | with_reducible refine grow_alloc ?_ _ | with_reducible refine grow_drewN ?_ _)); done)); intro y3)); (try (refine hthen (p := ZB wB (wA.heap.size + 1) false none 0 0) ?_ ?_; (focus (refine ZB.below (zb_new' wA) ?_; (repeat' (first | with_reducible exact Below.refl _ _ | with_reducible assumption | with_reducible refine grow_step (by with_reducible assumption) ?_ | with_reducible refine grow_drew ?_ | with_reducible refine grow_alloc ?_ _ | with_reducible refine grow_drewN ?_ _)); done)); intro y4)); (try (have y1a := y1.c0)); (try (have y1b := y1.c1)); (try (have y1c := y1.f 0)); (try (have y1d := y1.f 1)); (try (have y1e := y1.lt)); (try (have y2a := y2.c0)); (try (have y2b := y2.c1)); (try (have y2c := y2.f 0)); (try (have y2d := y2.f 1)); (try (have y2e := y2.lt)); (try (have y3a := y3.c0)); (try (have y3b := y3.c1)); (try (have y3c := y3.f 0)); (try (have y3d := y3.f 1)); (try (have y3e := y3.lt)); (try (have y4a := y4.c0)); (try (have y4b := y4.c1)); (try (have y4c := y4.f 0)); (try (have y4d := y4.f 1)); (try (have y4e := y4.lt)); (try (have ne13 := Nat.ne_of_lt Y1.lt)); (try (have ne31 := Nat.ne_of_gt Y1.lt))))
      all_goals (go_wp2_with fail; go_meet)
      all_goals (case rel => (refine ⟨_, _, sx, ax, lx, cx, sy, ay, ly, cy, xv, yv, rfl, rfl, rfl, ?_, ?_, ?_, ?_, hfe, ?_, hy, ?_⟩; (focus ((repeat' (first | with_reducible assumption | with_reducible exact zb_new _ _ _ _ _ | with_reducible exact zb_newS _ _ _ _ _ _ | with_reducible exact zb_newT _ _ _ _ _ _ _ _ _ | with_reducible refine zb_fin (s := false) (a := none) (l := 0) (c := 0) ?_ _ _ _ _ | with_reducible refine zbO ?_ ?_ | with_reducible refine zbA ?_ _ | omega)); done)); (focus ((repeat' (first | with_reducible assumption | with_reducible exact zb_new _ _ _ _ _ | with_reducible exact zb_newS _ _ _ _ _ _ | with_reducible exact zb_newT _ _ _ _ _ _ _ _ _ | with_reducible refine zb_fin (s := false) (a := none) (l := 0) (c := 0) ?_ _ _ _ _ | with_reducible refine zbO ?_ ?_ | with_reducible refine zbA ?_ _ | omega)); done)); (focus ((repeat' (first | with_reducible assumption | with_reducible refine znA ?_ _ | with_reducible refine zb_zn (s := false) (a := none) (l := 0) (c := 0) ?_ ?_ _ _ _ _ | with_reducible refine zbO ?_ ?_ | with_reducible refine zbA ?_ _ | omega)); done)); (focus ((repeat' (first | with_reducible assumption | with_reducible refine znA ?_ _ | with_reducible refine zb_zn (s := false) (a := none) (l := 0) (c := 0) ?_ ?_ _ _ _ _ | with_reducible refine zbO ?_ ?_ | with_reducible refine zbA ?_ _ | omega)); done)); (focus (omega; done)); (focus ((repeat' (first | with_reducible exact Below.refl _ _ | with_reducible assumption | with_reducible refine grow_step (by with_reducible assumption) ?_ | with_reducible refine grow_drew ?_ | with_reducible refine grow_alloc ?_ _ | with_reducible refine grow_drewN ?_ _ | (with_reducible refine grow_set ?_ ?_ _; rotate_left; (focus (omega; done))))); done))))
    case rest =>
      obtain ⟨px, py, sx, ax, lx, cx, sy, ay, ly, cy, xv, yv, rfl, rfl, rfl, xx, xy, Nx, Ny, hfe, hx, hy, kc⟩ := hcut
      replace b0 := b0.trans (kc.mono (Nat.le_of_lt x1.lt))
      replace x1 := x1.below kc
      replace x2 := x2.below kc
      replace xq := xq.below kc
      replace xr := xr.below kc
      replace n1 := n1.below kc
      replace n2 := n2.below kc
      replace nq := nq.below kc
      replace nr := nr.below kc
      replace htab := htab.below kc
      have nx := Nx.zm
      have ny := Ny.zm
      clear Nx Ny kc
      obtain ⟨e1, e2⟩ := fd_unique hfe (fd_more (unhide hfd))
      replace e1 := hide e1
      replace e2 := hide e2
      clear hfe
      go_upto_region 10 with (fail)
      have u1 := x1.c0
      have v1 := x1.c1
      have u2 := x2.c0
      have v2 := x2.c1
      have uq := xq.c0
      have vq := xq.c1
      have ur := xr.c0
      have vr := xr.c1
      have ux := xx.c0
      have vx := xx.c1
      have uy := xy.c0
      have vy := xy.c1
      go_wp2_with fail
      refine (zsub_n nx nq (by omega) (by omega)).mono ?_
      rintro e w10 ⟨s6, a6, l6, c6, rfl, N6, k10, h6⟩
      clear u1 v1 u2 v2 uq vq ur vr ux vx uy vy
      replace b0 := b0.trans (k10.mono (Nat.le_of_lt x1.lt))
      replace x1 := x1.below k10
      replace x2 := x2.below k10
      replace xq := xq.below k10
      replace xr := xr.below k10
      replace xx := xx.below k10
      replace xy := xy.below k10
      replace n1 := n1.below k10
      replace n2 := n2.below k10
      replace nq := nq.below k10
      replace nr := nr.below k10
      replace nx := nx.below k10
      replace ny := ny.below k10
      replace htab := htab.below k10
      clear k10
      have n6 := N6.zm
      clear N6
      go_wp2_with fail
      refine (zof_n 1 (by decide) (by decide) w10).mono ?_
      rintro e w11 ⟨s7, a7, l7, c7, rfl, N7, k11, h7⟩
      replace b0 := b0.trans (k11.mono (Nat.le_of_lt x1.lt))
      replace x1 := x1.below k11
      replace x2 := x2.below k11
      replace xq := xq.below k11
      replace xr := xr.below k11
      replace xx := xx.below k11
      replace xy := xy.below k11
      replace n1 := n1.below k11
      replace n2 := n2.below k11
      replace nq := nq.below k11
      replace nr := nr.below k11
      replace nx := nx.below k11
      replace ny := ny.below k11
      replace n6 := n6.below k11
      replace htab := htab.below k11
      clear k11
      have n7 := N7.zm
      clear N7
      go_wp2_with fail
      refine (zcmp_0 n6 n7 (by omega) (by omega) (by have := unhide e1; omega)).mono ?_
      rintro e w12 ⟨rfl, k12⟩
      replace b0 := b0.trans (k12.mono (Nat.le_of_lt x1.lt))
      replace x1 := x1.below k12
      replace x2 := x2.below k12
      replace xq := xq.below k12
      replace xr := xr.below k12
      replace xx := xx.below k12
      replace xy := xy.below k12
      replace n1 := n1.below k12
      replace n2 := n2.below k12
      replace nq := nq.below k12
      replace nr := nr.below k12
      replace nx := nx.below k12
      replace ny := ny.below k12
      replace n6 := n6.below k12
      replace n7 := n7.below k12
      replace htab := htab.below k12
      clear k12
      go_upto_region 11 with (fail)
      have u1 := x1.c0
      have v1 := x1.c1
      have u2 := x2.c0
      have v2 := x2.c1
      have uq := xq.c0
      have vq := xq.c1
      have ur := xr.c0
      have vr := xr.c1
      have ux := xx.c0
      have vx := xx.c1
      have uy := xy.c0
      have vy := xy.c1
      go_wp2_with fail
      refine (zcmp_0 ny nr (by omega) (by omega) (unhide e2)).mono ?_
      rintro e w13 ⟨rfl, k13⟩
      clear u1 v1 u2 v2 uq vq ur vr ux vx uy vy
      replace b0 := b0.trans (k13.mono (Nat.le_of_lt x1.lt))
      replace x1 := x1.below k13
      replace x2 := x2.below k13
      replace xq := xq.below k13
      replace xr := xr.below k13
      replace xx := xx.below k13
      replace xy := xy.below k13
      replace n1 := n1.below k13
      replace n2 := n2.below k13
      replace nq := nq.below k13
      replace nr := nr.below k13
      replace nx := nx.below k13
      replace ny := ny.below k13
      replace n6 := n6.below k13
      replace n7 := n7.below k13
      replace htab := htab.below k13
      clear k13
      go_upto_region 12 with (fail)
      rcases unhide hside with rfl | rfl
      · go_wp2_with fail
        go_ret
        exact ⟨by simp, hp.out.symm ▸ b0⟩
      · go_wp2_with fail
        go_ret
        exact ⟨by simp, hp.out.symm ▸ b0⟩
end Go.Proofs.YtmbeaopcpckiaabDoor
