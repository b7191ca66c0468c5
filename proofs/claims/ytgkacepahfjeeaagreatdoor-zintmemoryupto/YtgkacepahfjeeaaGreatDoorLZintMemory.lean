/-
  The walk of the law ZintMemory.
-/
import Derived.Test.YtgkacepahfjeeaaGreatDoorZI
import Derived.Test.YtgkacepahfjeeaaGreatDoorZk
import Derived.Deep.DeepCutAuto
namespace Go.Proofs.YtgkacepahfjeeaaGreatDoor
open Go.RowKit

theorem zm_rd {w : World} {s : Bool} {ad : Option Addr} {len cap : Nat} {z : Int} (h : Zm w s ad len cap z) : ∃ xs, Rd w ad len cap xs ∧ z = sg s (val xs) := by
  obtain ⟨n, ⟨xs, h1, rfl⟩, h2⟩ := h
  exact ⟨xs, h1, h2⟩
/-- a number that is lent reads as it did -/
theorem lent_zm {w : World} {s : Bool} {b l : Nat} {xs : List Int} (h : Row w b (xs ++ [77, 78])) (hL : Limbs xs) (hl : xs.length = l) (hb : l ≤ 1048576) : Zm w s (some ⟨b, 0, none⟩) l (l + 2) (sg s (val xs)) := by
  have hL2 : Limbs (xs ++ [77, 78]) := hL.append (fun z hz => by simp at hz; omega)
  have r := h.rd hL2 (off := 0) (len := l) (cap := l + 2) (by simp [hl]) (by omega) (by omega)
  rw [List.drop_zero, show (xs ++ [77, 78] : List Int).take l = xs by rw [← hl, List.take_left]] at r
  exact ⟨val xs, ⟨xs, r, rfl⟩, rfl⟩
theorem zk1' {wb w' : World} {p l c : Nat} {s : Bool} {a : Option Addr} (x : ZB wb p s a l c) (k : Below wb.heap.size wb w') : w'.cell? ⟨p, 0, none⟩ = some (.bool s) ∧ w'.cell? ⟨p, 1, none⟩ = some (.slice a l c) := ⟨(x.below k).c0, (x.below k).c1⟩
theorem zlen_le {B : Nat} {w : World} {s : Bool} {ad : Option Addr} {len cap : Nat} {z : Int} (h : Fresh.Zn B w s ad len cap z) : len ≤ cap := by
  obtain ⟨n, ⟨⟨zs, h1, _⟩, _⟩, _⟩ := h
  exact h1.2.1
theorem fr_ne_zb {B : Nat} {w : World} {ad a : Option Addr} {cap r l c : Nat} {s : Bool} (h : Fresh.Fr B w ad cap) (y : ZB w r s a l c) : blk ad ≠ some r := by
  rcases h with ⟨rfl, _⟩ | ⟨b, xs, rfl, _, h3, _⟩
  · intro e; cases e
  · intro e
    cases e
    have e := Option.some.inj ((show w.heap[b]? = _ from y).symm.trans h3)
    injection e with _ e
    exact absurd e (by decide)
/-- an answer stays where another one is written over -/
theorem zn_other {B : Nat} {w w' : World} {s : Bool} {ad aq : Option Addr} {len cap : Nat} {z : Int} (h : Fresh.Zn B w s ad len cap z) (hap : ∀ b, blk ad = some b → blk aq ≠ some b) (hs : w.heap.size ≤ w'.heap.size) (hk : ∀ k, k < w.heap.size → blk aq ≠ some k → w'.heap[k]? = w.heap[k]?) : Fresh.Zn B w' s ad len cap z := by
  obtain ⟨n, ⟨⟨zs, h1, h2, h3⟩, h4, h5⟩, h6⟩ := h
  have hf : Fresh.Fr B w' ad cap := by
    rcases h5 with h5 | ⟨b, ys, rfl, k1, k2, k3⟩
    · exact .inl h5
    · exact .inr ⟨b, ys, rfl, k1, (hk b (Fresh.row_lt k2) (hap b rfl)).trans k2, k3⟩
  refine ⟨n, ⟨⟨zs, ?_, h2, h3⟩, Nat.le_trans h4 hs, hf⟩, h6⟩
  obtain ⟨r1, r2, r3, r4, r5⟩ := h1
  refine ⟨r1, r2, r3, r4, ?_⟩
  rcases r5 with r5 | ⟨a, rfl, r5⟩
  · exact .inl r5
  · refine .inr ⟨a, rfl, ?_⟩
    rcases r5 with r5 | ⟨b, off, rfl, r6, r7⟩
    · exact .inl r5
    · refine .inr ⟨b, off, rfl, Nat.lt_of_lt_of_le r6 hs, fun i hi => ?_⟩
      rw [← r7 i hi]
      unfold World.cell?
      rw [show w'.heap[b]? = w.heap[b]? from hk b r6 (hap b rfl)]

set_option maxRecDepth 100000 in
set_option maxHeartbeats 6400000 in
theorem zintMemory_walk {s1 : Bool} {a1 : Option Addr} {l1 c1 : Nat} {z1 : Int} {s2 : Bool} {a2 : Option Addr} {l2 c2 : Nat} {z2 : Int} {w : World} (n1 : Zm w s1 a1 l1 c1 z1) (h1 : l1 ≤ 1048576) (n2 : Zm w s2 a2 l2 c2 z2) (h2 : l2 ≤ 1048576) (htab : Tab w) :
    Calls Tryz.prog 4 #[.agg #[.bool s1, .slice a1 l1 c1], .agg #[.bool s2, .slice a2 l2 c2]] w fun e w' => e = .returned (.bool true) ∧ Below w.heap.size w w' := by
  go_enter Tryz.func4, Tryz.ntmps4
  go_wp2_with fail
  have x1 := (zb_new w s1 a1 l1 c1).below (below_alloc _ (.cells #[.bool s2, .slice a2 l2 c2] 26))
  have x2 := zb_new (w.alloc (.cells #[.bool s1, .slice a1 l1 c1] 26)) s2 a2 l2 c2
  rw [show (w.alloc (.cells #[.bool s1, .slice a1 l1 c1] 26)).heap.size = w.heap.size + 1 from by simp] at x2
  have b0 : Below w.heap.size w ((w.alloc (.cells #[.bool s1, .slice a1 l1 c1] 26)).alloc (.cells #[.bool s2, .slice a2 l2 c2] 26)) := below_alloc' (below_alloc _ _) _
  generalize ((w.alloc (.cells #[.bool s1, .slice a1 l1 c1] 26)).alloc (.cells #[.bool s2, .slice a2 l2 c2] 26)) = wb0 at *
  obtain ⟨xs, rx, rfl⟩ := zm_rd n1
  obtain ⟨ys, ry, rfl⟩ := zm_rd n2
  replace n1 := n1.below b0
  replace n2 := n2.below b0
  replace rx := rx.below b0
  replace ry := ry.below b0
  replace htab := htab.below b0
  generalize w.heap.size + 1 = p2 at *
  generalize hp : w.heap.size = p1 at *
  replace hp := hide hp
  go_wp2_with fail
  refine (awake_any wb0 htab).mono ?_
  rintro e w1 ⟨rfl, k1⟩
  replace b0 := b0.trans (k1.mono (Nat.le_of_lt x1.lt))
  replace x1 := x1.below k1
  replace x2 := x2.below k1
  replace n1 := n1.below k1
  replace n2 := n2.below k1
  replace rx := rx.below k1
  replace ry := ry.below k1
  clear k1 htab
  have u0 := x1.c0
  have u1 := x1.c1
  go_wp2_with fail
  refine (zlent_any rx (by omega)).mono ?_
  rintro e w2 ⟨f1, rfl, k2, hf1, row1⟩
  have k2a : Below w1.heap.size w1 (w2.alloc (.cells #[.bool s1, .slice (some ⟨f1, 0, none⟩) l1 (l1 + 2)] 26)) := below_alloc' k2 _
  have t1 := zb_new w2 s1 (some ⟨f1, 0, none⟩) l1 (l1 + 2)
  replace row1 : Row (w2.alloc (.cells #[.bool s1, .slice (some ⟨f1, 0, none⟩) l1 (l1 + 2)] 26)) f1 (xs ++ [77, 78]) := ((below_alloc w2 _).block f1 (Fresh.row_lt row1)).trans row1
  replace b0 := b0.trans (k2a.mono (Nat.le_of_lt x1.lt))
  replace x1 := x1.below k2a
  replace x2 := x2.below k2a
  replace n1 := n1.below k2a
  replace n2 := n2.below k2a
  replace rx := rx.below k2a
  replace ry := ry.below k2a
  clear u0 u1
  have u0 := x2.c0
  have u1 := x2.c1
  go_wp2_with fail
  generalize w2.alloc (.cells #[.bool s1, .slice (some ⟨f1, 0, none⟩) l1 (l1 + 2)] 26) = w3 at *
  generalize w2.heap.size = p6 at *
  clear k2 k2a u0 u1
  refine (zlent_any ry (by omega)).mono ?_
  rintro e w4 ⟨f2, rfl, k4, hf2, row2⟩
  have k4a : Below w3.heap.size w3 (w4.alloc (.cells #[.bool s2, .slice (some ⟨f2, 0, none⟩) l2 (l2 + 2)] 26)) := below_alloc' k4 _
  have t2 := zb_new w4 s2 (some ⟨f2, 0, none⟩) l2 (l2 + 2)
  replace row2 : Row (w4.alloc (.cells #[.bool s2, .slice (some ⟨f2, 0, none⟩) l2 (l2 + 2)] 26)) f2 (ys ++ [77, 78]) := ((below_alloc w4 _).block f2 (Fresh.row_lt row2)).trans row2
  replace row1 : Row (w4.alloc (.cells #[.bool s2, .slice (some ⟨f2, 0, none⟩) l2 (l2 + 2)] 26)) f1 (xs ++ [77, 78]) := (k4a.block f1 (Fresh.row_lt row1)).trans row1
  replace b0 := b0.trans (k4a.mono (Nat.le_of_lt x1.lt))
  replace x1 := x1.below k4a
  replace x2 := x2.below k4a
  replace n1 := n1.below k4a
  replace n2 := n2.below k4a
  replace rx := rx.below k4a
  replace ry := ry.below k4a
  replace t1 := t1.below k4a
  have u0 := t1.c0
  have u1 := t1.c1
  go_wp2_with fail
  generalize w4.alloc (.cells #[.bool s2, .slice (some ⟨f2, 0, none⟩) l2 (l2 + 2)] 26) = wk at *
  generalize w4.heap.size = p7 at *
  clear k4 k4a u0 u1 hf1 hf2
  have zx := lent_zm (s := s1) row1 rx.2.2.2.1 rx.1 h1
  have zy := lent_zm (s := s2) row2 ry.2.2.2.1 ry.1 h2
  have hK : Below wk.heap.size wk wk := Below.refl _ _
  refine (Fresh.norm_n (Fresh.zm_of (zx.below hK) hK.size) (by omega)).mono ?_
  rintro e w5 ⟨s', ad, len, cap, rfl, hz, hb, hlx⟩
  go_wp2_with fail
  refine (zover_any hz.fr (Nat.le_trans hK.size hb.size) (zlen_le hz)).mono ?_
  rintro e w6 ⟨⟨v, rfl⟩, hb6, -⟩
  replace hK := (hK.trans (hb.mono hK.size)).trans hb6
  clear hz hb hb6 hlx
  have u0 := (t1.below hK).c0
  have u1 := (t1.below hK).c1
  have u2 := (t2.below hK).c0
  have u3 := (t2.below hK).c1
  go_wp2_with fail
  clear u0 u1 u2 u3
  refine (Fresh.neg_n (Fresh.zm_of (zx.below hK) hK.size) (by omega)).mono ?_
  rintro e w5 ⟨s', ad, len, cap, rfl, hz, hb, hlx⟩
  go_wp2_with fail
  refine (zover_any hz.fr (Nat.le_trans hK.size hb.size) (zlen_le hz)).mono ?_
  rintro e w6 ⟨⟨v, rfl⟩, hb6, -⟩
  replace hK := (hK.trans (hb.mono hK.size)).trans hb6
  clear hz hb hb6 hlx
  have u0 := (t1.below hK).c0
  have u1 := (t1.below hK).c1
  have u2 := (t2.below hK).c0
  have u3 := (t2.below hK).c1
  go_wp2_with fail
  clear u0 u1 u2 u3
  refine (Fresh.abs_n (Fresh.zm_of (zx.below hK) hK.size) (by omega)).mono ?_
  rintro e w5 ⟨s', ad, len, cap, rfl, hz, hb, hlx⟩
  go_wp2_with fail
  refine (zover_any hz.fr (Nat.le_trans hK.size hb.size) (zlen_le hz)).mono ?_
  rintro e w6 ⟨⟨v, rfl⟩, hb6, -⟩
  replace hK := (hK.trans (hb.mono hK.size)).trans hb6
  clear hz hb hb6 hlx
  have u0 := (t1.below hK).c0
  have u1 := (t1.below hK).c1
  have u2 := (t2.below hK).c0
  have u3 := (t2.below hK).c1
  go_wp2_with fail
  clear u0 u1 u2 u3
  refine (Fresh.zadd_n (Fresh.zm_of (zx.below hK) hK.size) (Fresh.zm_of (zy.below hK) hK.size) (by omega) (by omega)).mono ?_
  rintro e w5 ⟨s', ad, len, cap, rfl, hz, hb, hlx⟩
  go_wp2_with fail
  refine (zover_any hz.fr (Nat.le_trans hK.size hb.size) (zlen_le hz)).mono ?_
  rintro e w6 ⟨⟨v, rfl⟩, hb6, -⟩
  replace hK := (hK.trans (hb.mono hK.size)).trans hb6
  clear hz hb hb6 hlx
  have u0 := (t1.below hK).c0
  have u1 := (t1.below hK).c1
  have u2 := (t2.below hK).c0
  have u3 := (t2.below hK).c1
  go_wp2_with fail
  clear u0 u1 u2 u3
  refine (Fresh.zsub_n (Fresh.zm_of (zx.below hK) hK.size) (Fresh.zm_of (zy.below hK) hK.size) (by omega) (by omega)).mono ?_
  rintro e w5 ⟨s', ad, len, cap, rfl, hz, hb, hlx⟩
  go_wp2_with fail
  refine (zover_any hz.fr (Nat.le_trans hK.size hb.size) (zlen_le hz)).mono ?_
  rintro e w6 ⟨⟨v, rfl⟩, hb6, -⟩
  replace hK := (hK.trans (hb.mono hK.size)).trans hb6
  clear hz hb hb6 hlx
  have u0 := (t1.below hK).c0
  have u1 := (t1.below hK).c1
  have u2 := (t2.below hK).c0
  have u3 := (t2.below hK).c1
  go_wp2_with fail
  clear u0 u1 u2 u3
  refine (Fresh.zmul_n (Fresh.zm_of (zx.below hK) hK.size) (Fresh.zm_of (zy.below hK) hK.size) (by omega) (by omega)).mono ?_
  rintro e w5 ⟨s', ad, len, cap, rfl, hz, hb, hlx⟩
  go_wp2_with fail
  refine (zover_any hz.fr (Nat.le_trans hK.size hb.size) (zlen_le hz)).mono ?_
  rintro e w6 ⟨⟨v, rfl⟩, hb6, -⟩
  replace hK := (hK.trans (hb.mono hK.size)).trans hb6
  clear hz hb hb6 hlx
  have u0 := (t1.below hK).c0
  have u1 := (t1.below hK).c1
  have u2 := (t2.below hK).c0
  have u3 := (t2.below hK).c1
  go_wp2_with fail
  clear u0 u1 u2 u3
  refine (zdivmod_all (Fresh.zm_of (zx.below hK) hK.size) (Fresh.zm_of (zy.below hK) hK.size) (by omega) (by omega)).mono ?_
  rintro e w5 ⟨sq, aq, lq, cq, sr, ar, lr, cr, qv, rv, er, rfl, hq, hr, hrm, hb, hlr, hap⟩
  replace hK := hK.trans (hb.mono hK.size)
  have kq : Below w5.heap.size w5 ((w5.alloc (.cells #[.bool sq, .slice aq lq cq] 26)).alloc (.cells #[.bool sr, .slice ar lr cr] 26)) := below_alloc' (below_alloc _ _) _
  have t8 := (zb_new w5 sq aq lq cq).below (below_alloc _ (.cells #[.bool sr, .slice ar lr cr] 26))
  have t9 := zb_new (w5.alloc (.cells #[.bool sq, .slice aq lq cq] 26)) sr ar lr cr
  rw [show (w5.alloc (.cells #[.bool sq, .slice aq lq cq] 26)).heap.size = w5.heap.size + 1 from by simp] at t9
  replace hq := hq.below kq
  replace hr := hr.below kq
  replace hK := hK.trans (kq.mono hK.size)
  have u0 := t8.c0
  have u1 := t8.c1
  clear hb kq
  go_wp2_with fail
  generalize (w5.alloc (.cells #[.bool sq, .slice aq lq cq] 26)).alloc (.cells #[.bool sr, .slice ar lr cr] 26) = w6 at *
  generalize w5.heap.size + 1 = p9 at *
  generalize w5.heap.size = p8 at *
  clear u0 u1
  refine (zover_any hq.fr hK.size (zlen_le hq)).mono ?_
  rintro e w7 ⟨⟨v, rfl⟩, hb7, hk7⟩
  replace hr := zn_other hr hap hb7.size hk7
  replace t9 : ZB w7 p9 sr ar lr cr := (hk7 p9 t9.lt (fr_ne_zb hq.fr t9)).trans t9
  replace hK := hK.trans hb7
  clear hq hap hk7 hb7 t8
  have y1 := x1.below hK
  have y2 := x2.below hK
  have m1 := n1.below hK
  have m2 := n2.below hK
  have hr' := hr.zn
  go_wp2_with fail
  go_region_held3 (fun w' => w'.cell? ⟨p9, 0, none⟩ = some (.bool sr) ∧ w'.cell? ⟨p9, 1, none⟩ = some (.slice ar lr cr) ∧ w'.cell? ⟨p1, 0, none⟩ = some (.bool s1) ∧ w'.cell? ⟨p1, 1, none⟩ = some (.slice a1 l1 c1) ∧ w'.cell? ⟨p2, 0, none⟩ = some (.bool s2) ∧ w'.cell? ⟨p2, 1, none⟩ = some (.slice a2 l2 c2))
    ((refine zc3 t9 y1 y2 ?_; (repeat' (first | with_reducible exact Below.refl _ _ | with_reducible assumption | with_reducible refine grow_step (by with_reducible assumption) ?_ | with_reducible refine grow_drew ?_ | with_reducible refine grow_alloc ?_ _ | with_reducible refine grow_drewN ?_ _))))
    (first | (go_at_call 21; refine (rmod_all (m1.below (by (repeat' (first | with_reducible exact Below.refl _ _ | with_reducible assumption | with_reducible refine grow_step (by with_reducible assumption) ?_ | with_reducible refine grow_drew ?_ | with_reducible refine grow_alloc ?_ _ | with_reducible refine grow_drewN ?_ _)))) (m2.below (by (repeat' (first | with_reducible exact Below.refl _ _ | with_reducible assumption | with_reducible refine grow_step (by with_reducible assumption) ?_ | with_reducible refine grow_drew ?_ | with_reducible refine grow_alloc ?_ _ | with_reducible refine grow_drewN ?_ _)))) (by omega) (by omega)).mono ?_; rintro e w' ⟨sm, am, lm, cm, rm, rfl, hm, hrm2, hg, hlm⟩) | (go_at_call 10; refine (is_t (hr'.below (by (repeat' (first | with_reducible exact Below.refl _ _ | with_reducible assumption | with_reducible refine grow_step (by with_reducible assumption) ?_ | with_reducible refine grow_drew ?_ | with_reducible refine grow_alloc ?_ _ | with_reducible refine grow_drewN ?_ _)))) hm.zm (by omega) (by omega) (rm_unique hrm hrm2)).mono ?_; rintro e w' ⟨rfl, hg2⟩))
  have k8 : Below w7.heap.size w7 w' := by (repeat' (first | with_reducible exact Below.refl _ _ | with_reducible assumption | with_reducible refine grow_step (by with_reducible assumption) ?_ | with_reducible refine grow_drew ?_ | with_reducible refine grow_alloc ?_ _ | with_reducible refine grow_drewN ?_ _))
  replace t9 := t9.below k8
  replace hr := hr.below k8
  replace hK := hK.trans (k8.mono hK.size)
  clear y1 y2 m1 m2 hr' hm hrm2 hg hlm hg2 k8 hrm hlr
  have u0 := t9.c0
  have u1 := t9.c1
  go_wp2_with fail
  clear u0 u1
  refine (zover_any hr.fr hK.size (zlen_le hr)).mono ?_
  rintro e w9 ⟨⟨v9, rfl⟩, hb9, -⟩
  replace hK := hK.trans hb9
  clear hr t9 hb9
  have u0 := (t1.below hK).c0
  have u1 := (t1.below hK).c1
  have u2 := (t2.below hK).c0
  have u3 := (t2.below hK).c1
  go_wp2_with fail
  clear u0 u1 u2 u3
  refine (Fresh.zgcd1 (Fresh.zm_of (zx.below hK) hK.size) (by omega)).mono ?_
  rintro e w5 ⟨s', ad, len, cap, zz, rfl, hz, hb⟩
  go_wp2_with fail
  refine (zover_any hz.fr (Nat.le_trans hK.size hb.size) (zlen_le hz)).mono ?_
  rintro e w6 ⟨⟨v, rfl⟩, hb6, -⟩
  replace hK := (hK.trans (hb.mono hK.size)).trans hb6
  clear hz hb hb6
  have u0 := (t1.below hK).c0
  have u1 := (t1.below hK).c1
  have u2 := (t2.below hK).c0
  have u3 := (t2.below hK).c1
  go_wp2_with fail
  clear u0 u1 u2 u3
  refine (Fresh.zgcd2 (Fresh.zm_of (zx.below hK) hK.size) (Fresh.zm_of (zy.below hK) hK.size) (by omega) (by omega)).mono ?_
  rintro e w5 ⟨s', ad, len, cap, zz, rfl, hz, hb⟩
  go_wp2_with fail
  refine (zover_any hz.fr (Nat.le_trans hK.size hb.size) (zlen_le hz)).mono ?_
  rintro e w6 ⟨⟨v, rfl⟩, hb6, -⟩
  replace hK := (hK.trans (hb.mono hK.size)).trans hb6
  clear hz hb hb6
  have u0 := (t1.below hK).c0
  have u1 := (t1.below hK).c1
  have u2 := (t2.below hK).c0
  have u3 := (t2.below hK).c1
  go_wp2_with fail
  clear u0 u1 u2 u3
  refine (Fresh.zlcm1 (Fresh.zm_of (zx.below hK) hK.size) (by omega)).mono ?_
  rintro e w5 ⟨s', ad, len, cap, zz, rfl, hz, hb⟩
  go_wp2_with fail
  refine (zover_any hz.fr (Nat.le_trans hK.size hb.size) (zlen_le hz)).mono ?_
  rintro e w6 ⟨⟨v, rfl⟩, hb6, -⟩
  replace hK := (hK.trans (hb.mono hK.size)).trans hb6
  clear hz hb hb6
  have u0 := (t1.below hK).c0
  have u1 := (t1.below hK).c1
  have u2 := (t2.below hK).c0
  have u3 := (t2.below hK).c1
  go_wp2_with fail
  clear u0 u1 u2 u3
  refine (Fresh.zlcm2 (Fresh.zm_of (zx.below hK) hK.size) (Fresh.zm_of (zy.below hK) hK.size) (by omega) (by omega)).mono ?_
  rintro e w5 ⟨s', ad, len, cap, zz, rfl, hz, hb⟩
  go_wp2_with fail
  refine (zover_any hz.fr (Nat.le_trans hK.size hb.size) (zlen_le hz)).mono ?_
  rintro e w6 ⟨⟨v, rfl⟩, hb6, -⟩
  replace hK := (hK.trans (hb.mono hK.size)).trans hb6
  clear hz hb hb6
  have u0 := (t1.below hK).c0
  have u1 := (t1.below hK).c1
  have u2 := (t2.below hK).c0
  have u3 := (t2.below hK).c1
  go_wp2_with fail
  clear u0 u1 u2 u3
  refine (Fresh.zof_n 5 (by decide) (by decide) _ hK.size).mono ?_
  rintro e w5 ⟨s', ad, len, cap, rfl, hz, hb, hlx⟩
  go_wp2_with fail
  refine (zover_any hz.fr (Nat.le_trans hK.size hb.size) (zlen_le hz)).mono ?_
  rintro e w6 ⟨⟨v, rfl⟩, hb6, -⟩
  replace hK := (hK.trans (hb.mono hK.size)).trans hb6
  clear hz hb hb6 hlx
  have u0 := (t1.below hK).c0
  have u1 := (t1.below hK).c1
  have u2 := (t2.below hK).c0
  have u3 := (t2.below hK).c1
  go_wp2_with fail
  clear u0 u1 u2 u3
  refine (zof_n 5 (by decide) (by decide) _).mono ?_
  rintro e w5 ⟨s5, a5, l5, c5, rfl, z5, hb5, hl5⟩
  have kB : Below w5.heap.size w5 (w5.alloc (.cells #[.bool s5, .slice a5 l5 c5] 26)) := below_alloc _ _
  have t12 := zb_new w5 s5 a5 l5 c5
  replace z5 := z5.below kB
  replace hK := (hK.trans (hb5.mono hK.size)).trans (kB.mono (Nat.le_trans hK.size hb5.size))
  clear hb5 kB
  have u0 := (t1.below hK).c0
  have u1 := (t1.below hK).c1
  have u2 := (x1.below hK).c0
  have u3 := (x1.below hK).c1
  go_wp2_with fail
  generalize w5.alloc (.cells #[.bool s5, .slice a5 l5 c5] 26) = w6 at *
  generalize w5.heap.size = p12 at *
  clear u0 u1 u2 u3
  refine (zstays_t ((hK.block f1 (Fresh.row_lt row1)).trans row1) (rx.below hK) (by omega)).mono ?_
  rintro e wC ⟨rfl, kC⟩
  replace t12 := t12.below kC
  replace z5 := z5.below kC
  replace hK := hK.trans (kC.mono hK.size)
  clear kC
  have u0 := (t2.below hK).c0
  have u1 := (t2.below hK).c1
  have u2 := (x2.below hK).c0
  have u3 := (x2.below hK).c1
  go_wp2_with fail
  clear u0 u1 u2 u3
  refine (zstays_t ((hK.block f2 (Fresh.row_lt row2)).trans row2) (ry.below hK) (by omega)).mono ?_
  rintro e wD ⟨rfl, kD⟩
  replace t12 := t12.below kD
  replace z5 := z5.below kD
  replace hK := hK.trans (kD.mono hK.size)
  clear kD
  have u2 := (x2.below hK).c0
  have u3 := (x2.below hK).c1
  go_wp2_with fail
  clear u2 u3
  refine (rsign_n (n2.below hK) (by omega)).mono ?_
  rintro e wE ⟨rfl, kE⟩
  replace t12 := t12.below kE
  replace z5 := z5.below kE
  replace hK := hK.trans (kE.mono hK.size)
  clear kE
  generalize cmpI (sg s2 (val ys)) 0 = cc
  go_wp2_with fail
  refine Code.wp_mono ?_ (zm_reg23 t12 z5 hl5)
  rintro e a' w' ⟨rfl, ⟨v87, v88, v89, v90, v91, v92, v93, v94, v95, v96, v97, v98, v99, v100, v101, v102, v103, v104, v105, rfl⟩, kf⟩
  go_wp2_with fail
  go_ret
  exact ⟨rfl, hp.out.symm ▸ ((b0.trans (hK.mono (Nat.le_of_lt x1.lt))).trans (kf.mono (Nat.le_trans (Nat.le_of_lt x1.lt) hK.size)))⟩
end Go.Proofs.YtgkacepahfjeeaaGreatDoor
