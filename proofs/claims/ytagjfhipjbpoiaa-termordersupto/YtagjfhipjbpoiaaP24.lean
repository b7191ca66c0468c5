/-
 The law TermOrders: its walk.
-/
import Derived.Test.YtagjfhipjbpoiaaP22
namespace Go.Proofs.Ytagjfhipjbpoiaa
open Go.RowKit Go.Sort Go.Shelf
open Tm

theorem cmpI_anti (x y : Int) : cmpI y x = -cmpI x y := by unfold cmpI; split <;> split <;> (try split) <;> (try split) <;> omega
theorem cmpI_zero {x y : Int} : cmpI x y = 0 ↔ x = y := by unfold cmpI; split <;> (try split) <;> omega
theorem cmpI_three (x y : Int) : cmpI x y = -1 ∨ cmpI x y = 0 ∨ cmpI x y = 1 := by unfold cmpI; split <;> (try split) <;> simp
theorem cmpI_trans (x y z : Int) (h1 : cmpI x y ≤ 0) (h2 : cmpI y z ≤ 0) : cmpI x z ≤ 0 ∧ (cmpI x z = 0 → cmpI x y = 0 ∧ cmpI y z = 0) := by
 unfold cmpI at *
 omega
theorem ordQ_anti (p q : Int × Int) : ordQ q p = -ordQ p q := by
 unfold ordQ
 rw [cmpI_anti p.1 q.1, cmpI_anti p.2 q.2]
 by_cases h : cmpI p.1 q.1 = 0
 ·simp [h]
 ·have h' : -cmpI p.1 q.1 ≠ 0 := by omega
  simp [h]
theorem ordQ_zero {p q : Int × Int} : ordQ p q = 0 ↔ p = q := by
 unfold ordQ
 constructor
 ·intro h
  by_cases h1 : cmpI p.1 q.1 = 0
  ·simp [h1] at h
   exact Prod.ext (cmpI_zero.1 h1) (cmpI_zero.1 h)
  ·simp [h1] at h
 ·rintro rfl
  simp [cmpI_zero.2]
theorem ordQ_three (p q : Int × Int) : ordQ p q = -1 ∨ ordQ p q = 0 ∨ ordQ p q = 1 := by
 unfold ordQ
 split
 ·exact cmpI_three _ _
 ·exact cmpI_three _ _
theorem ordQ_trans (p q r : Int × Int) (h1 : ordQ p q ≤ 0) (h2 : ordQ q r ≤ 0) : ordQ p r ≤ 0 ∧ (ordQ p r = 0 → ordQ p q = 0 ∧ ordQ q r = 0) := by
 unfold ordQ at *
 have t1 := cmpI_trans p.1 q.1 r.1
 have t2 := cmpI_trans p.2 q.2 r.2
 have z1 := @cmpI_zero p.1 q.1
 have z2 := @cmpI_zero q.1 r.1
 have z3 := @cmpI_zero p.1 r.1
 split at h1 <;> split at h2 <;> split <;> omega
theorem ordL_anti : ∀ ps qs : List (Int × Int), ordL qs ps = -ordL ps qs
 | [], [] => rfl
 | [], _ :: _ => rfl
 | _ :: _, [] => rfl
 | p :: ps, q :: qs => by
  unfold ordL
  rw [ordQ_anti p q, ordL_anti ps qs]
  by_cases h : ordQ p q = 0
  ·simp [h]
  ·have h' : -ordQ p q ≠ 0 := by omega
   simp [h]
theorem ordL_zero : ∀ {ps qs : List (Int × Int)}, ordL ps qs = 0 ↔ ps = qs
 | [], [] => by simp [ordL]
 | [], _ :: _ => by simp [ordL]
 | _ :: _, [] => by simp [ordL]
 | p :: ps, q :: qs => by
  unfold ordL
  have := @ordL_zero ps qs
  by_cases h : ordQ p q = 0
  ·have e := ordQ_zero.1 h
   subst e
   simp [h, this]
  ·have hne : p ≠ q := fun e => h (ordQ_zero.2 e)
   simp [h, hne]
theorem ordL_three : ∀ ps qs : List (Int × Int), ordL ps qs = -1 ∨ ordL ps qs = 0 ∨ ordL ps qs = 1
 | [], [] => by simp [ordL]
 | [], _ :: _ => by simp [ordL]
 | _ :: _, [] => by simp [ordL]
 | p :: ps, q :: qs => by
  unfold ordL
  split
  ·exact ordQ_three p q
  ·exact ordL_three ps qs
theorem ordL_trans : ∀ ps qs rs : List (Int × Int), ordL ps qs ≤ 0 → ordL qs rs ≤ 0 → ordL ps rs ≤ 0 ∧ (ordL ps rs = 0 → ordL ps qs = 0 ∧ ordL qs rs = 0)
 | [], [], [] => by simp [ordL]
 | [], [], _ :: _ => by simp [ordL]
 | [], _ :: _, [] => by simp [ordL]
 | [], _ :: _, _ :: _ => by simp [ordL]
 | _ :: _, [], _ => by simp [ordL]
 | _ :: _, _ :: _, [] => by simp [ordL]
 | p :: ps, q :: qs, r :: rs => by
  unfold ordL
  intro h1 h2
  have t1 := ordQ_trans p q r
  have t2 := ordL_trans ps qs rs
  have z1 := @ordQ_zero p q
  have z2 := @ordQ_zero q r
  have z3 := @ordQ_zero p r
  by_cases e1 : ordQ p q = 0
  ·have := z1.1 e1
   subst this
   by_cases e2 : ordQ p r = 0
   ·simp [e1, e2] at h1 h2 ⊢
    exact t2 h1 h2
   ·simp [e1, e2] at h1 h2 ⊢
    omega
  ·by_cases e2 : ordQ q r = 0
   ·have := z2.1 e2
    subst this
    simp [e1, e2] at h1 h2 ⊢
    omega
   ·simp only [e1, e2, ne_eq, not_false_eq_true, if_true] at h1 h2
    have := t1 h1 h2
    have e3 : ordQ p r ≠ 0 := fun e => e1 (this.2 e).1
    simp [e1, e2, e3]
    omega
theorem ordT_anti (ps qs : List (Int × Int)) (k k2 : Int) : ordT qs ps k2 k = -ordT ps qs k k2 := by
 unfold ordT
 rw [ordL_anti ps qs, cmpI_anti k k2]
 by_cases h : ordL ps qs = 0
 ·simp [h]
 ·have h' : -ordL ps qs ≠ 0 := by omega
  simp [h]
theorem ordT_zero {ps qs : List (Int × Int)} {k k2 : Int} : ordT ps qs k k2 = 0 ↔ ps = qs ∧ k = k2 := by
 unfold ordT
 rw [← ordL_zero (ps := ps), ← cmpI_zero (x := k)]
 by_cases h : ordL ps qs = 0
 ·simp [h]
 ·simp [h]
theorem ordT_three (ps qs : List (Int × Int)) (k k2 : Int) : ordT ps qs k k2 = -1 ∨ ordT ps qs k k2 = 0 ∨ ordT ps qs k k2 = 1 := by
 unfold ordT
 split
 ·exact ordL_three ps qs
 ·exact cmpI_three _ _
theorem ordT_trans (ps qs rs : List (Int × Int)) (k k2 k3 : Int) (h1 : ordT ps qs k k2 ≤ 0) (h2 : ordT qs rs k2 k3 ≤ 0) : ordT ps rs k k3 ≤ 0 ∧ (ordT ps rs k k3 = 0 → ordT ps qs k k2 = 0 ∧ ordT qs rs k2 k3 = 0) := by
 unfold ordT at *
 have t1 := ordL_trans ps qs rs
 have t2 := cmpI_trans k k2 k3
 have z1 := @ordL_zero ps qs
 have z2 := @ordL_zero qs rs
 by_cases e1 : ordL ps qs = 0
 ·have := z1.1 e1
  subst this
  by_cases e2 : ordL ps rs = 0
  ·simp [e1, e2] at h1 h2 ⊢
   exact t2 h1 h2
  ·simp [e1, e2] at h1 h2 ⊢
   omega
 ·by_cases e2 : ordL qs rs = 0
  ·have := z2.1 e2
   subst this
   simp [e1, e2] at h1 h2 ⊢
   omega
  ·simp only [e1, e2, ne_eq, not_false_eq_true, if_true] at h1 h2
   have := t1 h1 h2
   have e3 : ordL ps rs ≠ 0 := fun e => e1 (this.2 e).1
   simp [e1, e2, e3]
   omega
theorem zn_len {w : World} {s : Bool} {a : Option Addr} {l c : Nat} {z : Int} (h : Zn w s a l c z) : z = 0 ↔ l = 0 := by
 obtain ⟨n, h1, h2, _⟩ := h
 rw [← h1.len]
 cases s <;> simp [sg] at h2 <;> omega
theorem std_zero {rs : List (Int × Int)} (h : Std rs) (hz : ∀ v, csum rs v = 0) : rs = [] := std_unique h std_nil fun v => by rw [hz v]; rfl

set_option maxRecDepth 100000 in
set_option maxHeartbeats 12800000 in
theorem termOrders_walk {w : World} {ad : Option Addr} {n cp : Nat} {s : Bool} {a : Option Addr} {l c : Nat} {ps : List (Int × Int)} {k : Int} {ad2 : Option Addr} {n2 cp2 : Nat} {s2 : Bool} {a2 : Option Addr} {l2 c2 : Nat} {qs : List (Int × Int)} {k2 : Int} {ad3 : Option Addr} {n3 cp3 : Nat} {s3 : Bool} {a3 : Option Addr} {l3 c3 : Nat} {rs : List (Int × Int)} {k3 : Int} {B : Nat}
  (hP : Pr w ad n ps B) (hz : Zm w s a l c k) (hl : l ≤ B) (hn : n ≤ B) (hP2 : Pr w ad2 n2 qs B) (hz2 : Zm w s2 a2 l2 c2 k2) (hl2 : l2 ≤ B) (hn2 : n2 ≤ B) (hP3 : Pr w ad3 n3 rs B) (hz3 : Zm w s3 a3 l3 c3 k3) (hl3 : l3 ≤ B) (hn3 : n3 ≤ B) (hB : B ≤ 1048576) :
  Calls Try.prog 9 #[.agg #[.slice ad n cp, .bool s, .slice a l c], .agg #[.slice ad2 n2 cp2, .bool s2, .slice a2 l2 c2], .agg #[.slice ad3 n3 cp3, .bool s3, .slice a3 l3 c3]] w fun e w' => e = .returned (.bool true) ∧ Below w.heap.size w w' := by
 go_enter Try.func9, Try.ntmps9
 go_wp2_with fail
 have x := ((tb_new w ad n cp s a l c).below (below_alloc _ (.cells #[.slice ad2 n2 cp2, .bool s2, .slice a2 l2 c2] 27))).below (below_alloc _ (.cells #[.slice ad3 n3 cp3, .bool s3, .slice a3 l3 c3] 27))
 have y := (tb_new (w.alloc (.cells #[.slice ad n cp, .bool s, .slice a l c] 27)) ad2 n2 cp2 s2 a2 l2 c2).below (below_alloc _ (.cells #[.slice ad3 n3 cp3, .bool s3, .slice a3 l3 c3] 27))
 have z := tb_new ((w.alloc (.cells #[.slice ad n cp, .bool s, .slice a l c] 27)).alloc (.cells #[.slice ad2 n2 cp2, .bool s2, .slice a2 l2 c2] 27)) ad3 n3 cp3 s3 a3 l3 c3
 have b0 : Below w.heap.size w (((w.alloc (.cells #[.slice ad n cp, .bool s, .slice a l c] 27)).alloc (.cells #[.slice ad2 n2 cp2, .bool s2, .slice a2 l2 c2] 27)).alloc (.cells #[.slice ad3 n3 cp3, .bool s3, .slice a3 l3 c3] 27)) := below_alloc' (below_alloc' (below_alloc _ _) _) _
 rw [show (w.alloc (.cells #[.slice ad n cp, .bool s, .slice a l c] 27)).heap.size = w.heap.size + 1 from by simp] at y
 rw [show ((w.alloc (.cells #[.slice ad n cp, .bool s, .slice a l c] 27)).alloc (.cells #[.slice ad2 n2 cp2, .bool s2, .slice a2 l2 c2] 27)).heap.size = w.heap.size + 1 + 1 from by simp] at z
 generalize ((w.alloc (.cells #[.slice ad n cp, .bool s, .slice a l c] 27)).alloc (.cells #[.slice ad2 n2 cp2, .bool s2, .slice a2 l2 c2] 27)).alloc (.cells #[.slice ad3 n3 cp3, .bool s3, .slice a3 l3 c3] 27) = wb at *
 replace hP := hP.below b0
 replace hz := hz.below b0
 replace hP2 := hP2.below b0
 replace hz2 := hz2.below b0
 replace hP3 := hP3.below b0
 replace hz3 := hz3.below b0
 generalize hp : w.heap.size = p0 at *
 replace b0 : Hid (Below w.heap.size w wb) := hp ▸ b0
 replace hp := hide hp
 generalize p0 + 1 = p1 at *
 generalize p1 + 1 = p2 at *
 refine (awake5 wb).mono ?_
 rintro e w1 ⟨rfl, k1⟩
 replace k1 := hide k1
 have fx0 := (x.below k1.out).c0
 have fx1 := (x.below k1.out).c1
 have fx2 := (x.below k1.out).c2
 have fxl := (x.below k1.out).lt
 have fy0 := (y.below k1.out).c0
 have fy1 := (y.below k1.out).c1
 have fy2 := (y.below k1.out).c2
 have fyl := (y.below k1.out).lt
 go_wp2_with fail
 refine (torder_n (hP.below k1.out) (hz.below k1.out) hl (hP2.below k1.out) (hz2.below k1.out) hl2 (by omega) (by omega)).mono ?_
 rintro e w2 ⟨u1, v1, rfl, hu1, hv1, hcu1, hcv1, kO⟩
 clear fx0 fx1 fx2 fxl
 clear fy0 fy1 fy2 fyl
 have kb2 := hide (grow_step kO k1.out)
 clear kO k1
 have fy0 := (y.below kb2.out).c0
 have fy1 := (y.below kb2.out).c1
 have fy2 := (y.below kb2.out).c2
 have fyl := (y.below kb2.out).lt
 have fz0 := (z.below kb2.out).c0
 have fz1 := (z.below kb2.out).c1
 have fz2 := (z.below kb2.out).c2
 have fzl := (z.below kb2.out).lt
 go_wp2_with fail
 refine (torder_n (hP2.below kb2.out) (hz2.below kb2.out) hl2 (hP3.below kb2.out) (hz3.below kb2.out) hl3 (by omega) (by omega)).mono ?_
 rintro e w3 ⟨u2, v2, rfl, hu2, hv2, hcu2, hcv2, kO⟩
 clear fy0 fy1 fy2 fyl
 clear fz0 fz1 fz2 fzl
 have kb3 := hide (grow_step kO kb2.out)
 clear kO kb2
 obtain rfl : u2 = v1 := std_unique hu2 hv1 (fun t => by rw [hcu2, hcv1])
 have fx0 := (x.below kb3.out).c0
 have fx1 := (x.below kb3.out).c1
 have fx2 := (x.below kb3.out).c2
 have fxl := (x.below kb3.out).lt
 have fz0 := (z.below kb3.out).c0
 have fz1 := (z.below kb3.out).c1
 have fz2 := (z.below kb3.out).c2
 have fzl := (z.below kb3.out).lt
 go_wp2_with fail
 refine (torder_n (hP.below kb3.out) (hz.below kb3.out) hl (hP3.below kb3.out) (hz3.below kb3.out) hl3 (by omega) (by omega)).mono ?_
 rintro e w4 ⟨u3, v3, rfl, hu3, hv3, hcu3, hcv3, kO⟩
 clear fx0 fx1 fx2 fxl
 clear fz0 fz1 fz2 fzl
 have kb4 := hide (grow_step kO kb3.out)
 clear kO kb3
 obtain rfl : u3 = u1 := std_unique hu3 hu1 (fun t => by rw [hcu3, hcu1])
 obtain rfl : v3 = v2 := std_unique hv3 hv2 (fun t => by rw [hcv3, hcv2])
 have fy0 := (y.below kb4.out).c0
 have fy1 := (y.below kb4.out).c1
 have fy2 := (y.below kb4.out).c2
 have fyl := (y.below kb4.out).lt
 have fx0 := (x.below kb4.out).c0
 have fx1 := (x.below kb4.out).c1
 have fx2 := (x.below kb4.out).c2
 have fxl := (x.below kb4.out).lt
 go_wp2_with fail
 refine (torder_n (hP2.below kb4.out) (hz2.below kb4.out) hl2 (hP.below kb4.out) (hz.below kb4.out) hl (by omega) (by omega)).mono ?_
 rintro e w5 ⟨u4, v4, rfl, hu4, hv4, hcu4, hcv4, kO⟩
 clear fy0 fy1 fy2 fyl
 clear fx0 fx1 fx2 fxl
 have kb5 := hide (grow_step kO kb4.out)
 clear kO kb4
 obtain rfl : u4 = u2 := std_unique hu4 hu2 (fun t => by rw [hcu4, hcu2])
 obtain rfl : v4 = u3 := std_unique hv4 hu3 (fun t => by rw [hcv4, hcu3])
 have fx0 := (x.below kb5.out).c0
 have fx1 := (x.below kb5.out).c1
 have fx2 := (x.below kb5.out).c2
 have fxl := (x.below kb5.out).lt
 have fy0 := (y.below kb5.out).c0
 have fy1 := (y.below kb5.out).c1
 have fy2 := (y.below kb5.out).c2
 have fyl := (y.below kb5.out).lt
 go_wp2_with fail
 refine (tsub_n (hP.below kb5.out) (hz.below kb5.out) hl (hP2.below kb5.out) (hz2.below kb5.out) hl2 (by omega)).mono ?_
 rintro e w6 ⟨ad', n', cp', s', a', l', c', rd, rfl, hT, hn', hStd, hcs⟩
 clear fx0 fx1 fx2 fxl
 clear fy0 fy1 fy2 fyl
 have hlen : rd.length = n' := by have := hT.pr.1; simpa using this
 have hnil : n' = 0 ↔ v4 = u4 := by
  constructor
  ·intro h
   have hrd : rd = [] := List.eq_nil_of_length_eq_zero (by omega)
   refine std_unique hv4 hu4 (fun t => ?_)
   have := hcs t
   rw [hrd, csum_append, csum_scl] at this
   rw [hcv4, hcu4]
   change 0 = _ at this
   omega
  ·intro h
   have : rd.map Raw.p = [] := std_zero hStd (fun t => by rw [hcs, csum_append, csum_scl, ← hcv4, ← hcu4, h]; omega)
   have h9 : rd.length = 0 := by
    have := congrArg List.length this
    rwa [List.length_map] at this
   omega
 have hzero := zn_len hT.zn
 have kf := hide (grow_alloc (grow_step hT.below (grow_step kb5.out b0.out)) (.cells #[.slice ad' n' cp', .bool s', .slice a' l' c'] 27))
 have hx0 := ordT_zero (ps := v4) (qs := u4) (k := k) (k2 := k2)
 have hx3 := ordT_three v4 u4 k k2
 have hy3 := ordT_three u4 v3 k2 k3
 have hw3 := ordT_three v4 v3 k k3
 have htr := ordT_trans v4 u4 v3 k k2 k3
 rw [ordT_anti v4 u4 k k2]
 clear hT hcs kb5 x y z hP hz hP2 hz2 hP3 hz3 b0
 generalize ordT v4 u4 k k2 = X at *
 generalize ordT u4 v3 k2 k3 = Y at *
 generalize ordT v4 v3 k k3 = Z at *
 rw [← hnil, show k = k2 ↔ l' = 0 by rw [← hzero]; omega] at hx0
 clear hnil hzero hcu1 hcv1 hcu2 hcv2 hcu3 hcv3 hcu4 hcv4 hu4 hv4 hv3 hlen hStd
 have hxc : (X = 0 ∧ n' = 0 ∧ l' = 0) ∨ (X ≠ 0 ∧ n' ≠ 0) ∨ (X ≠ 0 ∧ n' = 0 ∧ l' ≠ 0) := by omega
 replace htr := hide htr
 replace hn' := hide hn'
 clear hx0
 rcases hxc with ⟨rfl, rfl, rfl⟩ | ⟨hx, hn0⟩ | ⟨hx, rfl, hl0⟩
 ·clear hx3
  rcases hy3 with rfl | rfl | rfl
  ·rcases hw3 with rfl | rfl | rfl
   ·skip
    go_wp2
    go_ret
    exact ⟨by first | (simp; done) | (simp; assumption), kf.out⟩
   ·exfalso; have := htr.out; omega
   ·exfalso; have := htr.out; omega
  ·rcases hw3 with rfl | rfl | rfl
   ·skip
    go_wp2
    go_ret
    exact ⟨by first | (simp; done) | (simp; assumption), kf.out⟩
   ·skip
    go_wp2
    go_ret
    exact ⟨by first | (simp; done) | (simp; assumption), kf.out⟩
   ·exfalso; have := htr.out; omega
  ·skip
   go_wp2
   go_ret
   exact ⟨by first | (simp; done) | (simp; assumption), kf.out⟩
 ·skip
  rcases hx3 with rfl | rfl | rfl
  ·skip
   rcases hy3 with rfl | rfl | rfl
   ·rcases hw3 with rfl | rfl | rfl
    ·skip
     go_wp2
     go_ret
     exact ⟨by first | (simp; done) | (simp; assumption), kf.out⟩
    ·exfalso; have := htr.out; omega
    ·exfalso; have := htr.out; omega
   ·rcases hw3 with rfl | rfl | rfl
    ·skip
     go_wp2
     go_ret
     exact ⟨by first | (simp; done) | (simp; assumption), kf.out⟩
    ·exfalso; have := htr.out; omega
    ·exfalso; have := htr.out; omega
   ·skip
    go_wp2
    go_ret
    exact ⟨by first | (simp; done) | (simp; assumption), kf.out⟩
  ·exact absurd rfl hx
  ·skip
   go_wp2
   go_ret
   exact ⟨by first | (simp; done) | (simp; assumption), kf.out⟩
 ·skip
  rcases hx3 with rfl | rfl | rfl
  ·skip
   rcases hy3 with rfl | rfl | rfl
   ·rcases hw3 with rfl | rfl | rfl
    ·skip
     go_wp2
     go_ret
     exact ⟨by first | (simp; done) | (simp; assumption), kf.out⟩
    ·exfalso; have := htr.out; omega
    ·exfalso; have := htr.out; omega
   ·rcases hw3 with rfl | rfl | rfl
    ·skip
     go_wp2
     go_ret
     exact ⟨by first | (simp; done) | (simp; assumption), kf.out⟩
    ·exfalso; have := htr.out; omega
    ·exfalso; have := htr.out; omega
   ·skip
    go_wp2
    go_ret
    exact ⟨by first | (simp; done) | (simp; assumption), kf.out⟩
  ·exact absurd rfl hx
  ·skip
   go_wp2
   go_ret
   exact ⟨by first | (simp; done) | (simp; assumption), kf.out⟩
end Go.Proofs.Ytagjfhipjbpoiaa
