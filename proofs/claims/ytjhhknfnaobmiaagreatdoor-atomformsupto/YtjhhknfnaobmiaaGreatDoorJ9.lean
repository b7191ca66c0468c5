/-
  Several texts in one: B1, A0, B2, B3, B4.
-/
import Derived.Test.YtjhhknfnaobmiaaGreatDoorZ3
import Derived.Test.YtjhhknfnaobmiaaGreatDoorY3
import Derived.Test.YtjhhknfnaobmiaaGreatDoorYI
import Derived.Test.YtjhhknfnaobmiaaGreatDoorJ7
import Derived.Test.YtjhhknfnaobmiaaGreatDoorJ8
import Derived.Test.YtjhhknfnaobmiaaGreatDoorZ8
namespace Go.Proofs.YtjhhknfnaobmiaaGreatDoor
open Go.RowKit Go.Sort Go.Shelf
open Tm

theorem fd_div {a b q r : Int} (h : FD a b q r) (hb : 0 < b) : q = a / b ∧ r = a % b := by
 obtain ⟨h1, h2⟩ := h
 rcases h2 with ⟨h3, h4⟩ | ⟨h3, h4⟩
 ·subst h1
  rw [Int.add_comm, Int.add_mul_ediv_right _ _ (by omega), Int.ediv_eq_zero_of_lt h3 h4, Int.add_mul_emod_self_right, Int.emod_eq_of_lt h3 h4]
  exact ⟨by omega, rfl⟩
 ·omega
set_option maxRecDepth 100000 in
set_option maxHeartbeats 1600000 in
theorem quotient_n {s1 s2 : Bool} {a1 a2 : Option Addr} {l1 c1 l2 c2 : Nat} {z1 z2 : Int} {w : World} (h1 : Zm w s1 a1 l1 c1 z1) (h2 : Zm w s2 a2 l2 c2 z2) (hl1 : l1 ≤ 1099511627776) (hl2 : l2 ≤ 1099511627776) (hz : 0 < z2) :
  Calls Tryz.prog 39 #[.agg #[.bool s1, .slice a1 l1 c1], .agg #[.bool s2, .slice a2 l2 c2]] w fun e w' => ∃ s a l c, e = .returned (.agg #[.bool s, .slice a l c]) ∧ Zn w' s a l c (z1 / z2) ∧ Below w.heap.size w w' ∧ l ≤ l1 + 3 := by
 go_enter Tryz.func39, Tryz.ntmps39
 go_wp2_with fail
 have y := zb_new ((w.alloc (.cells #[.bool s1, .slice a1 l1 c1] 24)).alloc (.cells #[.bool s2, .slice a2 l2 c2] 24)) false none 0 0
 have b0 : Below w.heap.size w (((w.alloc (.cells #[.bool s1, .slice a1 l1 c1] 24)).alloc (.cells #[.bool s2, .slice a2 l2 c2] 24)).alloc (.cells #[.bool false, .slice none 0 0] 24)) := below_alloc' (below_alloc' (below_alloc _ _) _) _
 rw [show ((w.alloc (.cells #[.bool s1, .slice a1 l1 c1] 24)).alloc (.cells #[.bool s2, .slice a2 l2 c2] 24)).heap.size = w.heap.size + 1 + 1 from by simp] at y
 generalize ((w.alloc (.cells #[.bool s1, .slice a1 l1 c1] 24)).alloc (.cells #[.bool s2, .slice a2 l2 c2] 24)).alloc (.cells #[.bool false, .slice none 0 0] 24) = wb at *
 have hr : w.heap.size ≤ w.heap.size + 1 + 1 := by omega
 generalize w.heap.size + 1 + 1 = r at *
 refine (zdivmod_n (h1.below b0) (h2.below b0) hl1 hl2 (by omega)).mono ?_
 rintro e w1 ⟨sq, aq, lq, cq, sr, ar, lr, cr, qv, rv, rfl, hzq, hzr, hFD, k1, hlq, hlr⟩
 have hval : qv = z1 / z2 ∧ rv = z1 % z2 := fd_div hFD hz
 obtain ⟨rfl, rfl⟩ := hval
 have kk := hide (grow_step k1 b0)
 have y1 := y.below k1
 clear k1 b0 y h1 h2
 have ka := below_alloc w1 (.cells #[.bool sq, .slice aq lq cq] 24)
 have kb := below_alloc (w1.alloc (.cells #[.bool sq, .slice aq lq cq] 24)) (.cells #[.bool sr, .slice ar lr cr] 24)
 have kc := grow_step kb ka
 have y2 := y1.below kc
 have y3 := y2.c0
 have y4 := y2.c1
 have y5 := y2.f 0
 have y6 := y2.f 1
 have hz9 := hide (zb_zn y2 (hzq.below kc) sq aq lq cq)
 have hk9 := hide (((grow_step kc kk.out).setCell (p := ⟨r, 0, none⟩) hr (.bool sq)).setCell (p := ⟨r, 1, none⟩) hr (.slice aq lq cq))
 clear ka kb kc
 go_wp2
 refine bodyPost_ret (results_cell_row rfl _ _ r 24 _ (0, 0) _ rfl (zb_fin y2 sq aq lq cq) Tryz.underlying24 rfl (by kernel_rfl)) rfl ?_
 exact ⟨sq, aq, lq, cq, by simp, hz9.out, hk9.out, by omega⟩
set_option maxRecDepth 100000 in
set_option maxHeartbeats 1600000 in
theorem remainder_n {s1 s2 : Bool} {a1 a2 : Option Addr} {l1 c1 l2 c2 : Nat} {z1 z2 : Int} {w : World} (h1 : Zm w s1 a1 l1 c1 z1) (h2 : Zm w s2 a2 l2 c2 z2) (hl1 : l1 ≤ 1099511627776) (hl2 : l2 ≤ 1099511627776) (hz : 0 < z2) :
  Calls Tryz.prog 116 #[.agg #[.bool s1, .slice a1 l1 c1], .agg #[.bool s2, .slice a2 l2 c2]] w fun e w' => ∃ s a l c, e = .returned (.agg #[.bool s, .slice a l c]) ∧ Zn w' s a l c (z1 % z2) ∧ Below w.heap.size w w' ∧ l ≤ l2 := by
 go_enter Tryz.func116, Tryz.ntmps116
 go_wp2_with fail
 have y := zb_new ((w.alloc (.cells #[.bool s1, .slice a1 l1 c1] 24)).alloc (.cells #[.bool s2, .slice a2 l2 c2] 24)) false none 0 0
 have b0 : Below w.heap.size w (((w.alloc (.cells #[.bool s1, .slice a1 l1 c1] 24)).alloc (.cells #[.bool s2, .slice a2 l2 c2] 24)).alloc (.cells #[.bool false, .slice none 0 0] 24)) := below_alloc' (below_alloc' (below_alloc _ _) _) _
 rw [show ((w.alloc (.cells #[.bool s1, .slice a1 l1 c1] 24)).alloc (.cells #[.bool s2, .slice a2 l2 c2] 24)).heap.size = w.heap.size + 1 + 1 from by simp] at y
 generalize ((w.alloc (.cells #[.bool s1, .slice a1 l1 c1] 24)).alloc (.cells #[.bool s2, .slice a2 l2 c2] 24)).alloc (.cells #[.bool false, .slice none 0 0] 24) = wb at *
 have hr : w.heap.size ≤ w.heap.size + 1 + 1 := by omega
 generalize w.heap.size + 1 + 1 = r at *
 refine (zdivmod_n (h1.below b0) (h2.below b0) hl1 hl2 (by omega)).mono ?_
 rintro e w1 ⟨sq, aq, lq, cq, sr, ar, lr, cr, qv, rv, rfl, hzq, hzr, hFD, k1, hlq, hlr⟩
 have hval : qv = z1 / z2 ∧ rv = z1 % z2 := fd_div hFD hz
 obtain ⟨rfl, rfl⟩ := hval
 have kk := hide (grow_step k1 b0)
 have y1 := y.below k1
 clear k1 b0 y h1 h2
 have ka := below_alloc w1 (.cells #[.bool sq, .slice aq lq cq] 24)
 have kb := below_alloc (w1.alloc (.cells #[.bool sq, .slice aq lq cq] 24)) (.cells #[.bool sr, .slice ar lr cr] 24)
 have kc := grow_step kb ka
 have y2 := y1.below kc
 have y3 := y2.c0
 have y4 := y2.c1
 have y5 := y2.f 0
 have y6 := y2.f 1
 have hz9 := hide (zb_zn y2 (hzr.below kc) sr ar lr cr)
 have hk9 := hide (((grow_step kc kk.out).setCell (p := ⟨r, 0, none⟩) hr (.bool sr)).setCell (p := ⟨r, 1, none⟩) hr (.slice ar lr cr))
 clear ka kb kc
 go_wp2
 refine bodyPost_ret (results_cell_row rfl _ _ r 24 _ (0, 0) _ rfl (zb_fin y2 sr ar lr cr) Tryz.underlying24 rfl (by kernel_rfl)) rfl ?_
 exact ⟨sr, ar, lr, cr, by simp, hz9.out, hk9.out, by omega⟩
set_option maxRecDepth 100000 in
set_option maxHeartbeats 1600000 in
theorem divides_n {s1 s2 : Bool} {a1 a2 : Option Addr} {l1 c1 l2 c2 : Nat} {z1 z2 : Int} {w : World} (h1 : Zm w s1 a1 l1 c1 z1) (h2 : Zm w s2 a2 l2 c2 z2) (hl1 : l1 ≤ 1099511627776) (hl2 : l2 ≤ 1099511627776) (hz : 0 < z1) :
  Calls Tryz.prog 68 #[.agg #[.bool s1, .slice a1 l1 c1], .agg #[.bool s2, .slice a2 l2 c2]] w fun e w' => e = .returned (.bool (decide (z1 ∣ z2))) ∧ Below w.heap.size w w' := by
 go_enter Tryz.func68, Tryz.ntmps68
 go_wp2_with fail
 have b0 : Below w.heap.size w ((w.alloc (.cells #[.bool s1, .slice a1 l1 c1] 24)).alloc (.cells #[.bool s2, .slice a2 l2 c2] 24)) := below_alloc' (below_alloc _ _) _
 refine (remainder_n (h2.below b0) (h1.below b0) hl2 hl1 hz).mono ?_
 rintro e w1 ⟨s, a, l, c, rfl, hr, k1, hl⟩
 have kk := hide (grow_step k1 b0)
 clear k1 b0
 go_wp2_with fail
 refine (zsign_n hr.zm (by omega)).mono ?_
 rintro e w2 ⟨rfl, k2⟩
 have kk2 := hide (grow_step k2 kk.out)
 clear k2 kk
 have hiff : (cmpI (z2 % z1) 0 = 0) ↔ z1 ∣ z2 := by
  rw [Int.dvd_iff_emod_eq_zero]
  unfold cmpI
  split <;> (try split) <;> omega
 have hd : Hid (decide (z1 ∣ z2) = decide (cmpI (z2 % z1) 0 = 0)) := (show _ = _ from decide_eq_decide.2 hiff.symm)
 generalize cmpI (z2 % z1) 0 = cz at *
 go_wp2
 go_ret
 exact ⟨ret_bool hd.out.symm, kk2.out⟩
set_option maxRecDepth 100000 in
set_option maxHeartbeats 1600000 in
theorem truth_n {b : Bool} {w : World} :
  Calls Tryz.prog 35 #[.bool b] w fun e w' => e = .returned (.agg #[.int .i64 (if b then 1 else 0), .bool false, .slice none 0 0, .slice none 0 0, .bool false, .slice none 0 0]) ∧ Below w.heap.size w w' := by
 go_enter Tryz.func35, Tryz.ntmps35
 have kb : ∀ v, Hid (Below w.heap.size w (w.alloc (.cells #[.int .i64 v, .bool false, .slice none 0 0, .slice none 0 0, .bool false, .slice none 0 0] 29))) := fun _ => below_alloc w _
 have hn : ∀ v, Hid ((w.alloc (.cells #[.int .i64 v, .bool false, .slice none 0 0, .slice none 0 0, .bool false, .slice none 0 0] 29)).heap[w.heap.size]? = some (.cells #[.int .i64 v, .bool false, .slice none 0 0, .slice none 0 0, .bool false, .slice none 0 0] 29 (0, 0))) := fun _ => heap_alloc_new w _
 replace hn := hide hn
 replace kb := hide kb
 cases b
 ·go_wp2
  refine bodyPost_ret (results_cell_row rfl _ _ w.heap.size 29 _ (0, 0) _ rfl (hn.out 0).out Tryz.underlying29 rfl (by kernel_rfl)) rfl ?_
  exact ⟨by simp, (kb.out 0).out⟩
 ·go_wp2
  refine bodyPost_ret (results_cell_row rfl _ _ w.heap.size 29 _ (0, 0) _ rfl (hn.out 1).out Tryz.underlying29 rfl (by kernel_rfl)) rfl ?_
  exact ⟨by simp, (kb.out 1).out⟩
end Go.Proofs.YtjhhknfnaobmiaaGreatDoor

namespace Go.Proofs.YtjhhknfnaobmiaaGreatDoor.At
open Tm

/-- each number of a list of parts turned, parts with 0 left out -/
def eachP (F : Int → Int) (qs : List (Int × Int)) : List (Int × Int) := (qs.map fun q => (q.1, F q.2)).filter fun q => decide (q.2 ≠ 0)
/-- the greatest common divisor of a number and of the coefficients -/
def gcdL (g : Nat) (qs : List (Int × Int)) : Nat := qs.foldl (fun g q => Nat.gcd g q.2.natAbs) g

theorem eachP_cons (F : Int → Int) (q : Int × Int) (qs : List (Int × Int)) : eachP F (q :: qs) = if F q.2 = 0 then eachP F qs else (q.1, F q.2) :: eachP F qs := by
 unfold eachP
 by_cases h : F q.2 = 0 <;> simp [h]
theorem eachP_snoc (F : Int → Int) (qs : List (Int × Int)) (q : Int × Int) : eachP F (qs ++ [q]) = eachP F qs ++ if F q.2 = 0 then [] else [(q.1, F q.2)] := by
 unfold eachP
 by_cases h : F q.2 = 0 <;> simp [h]
theorem eachP_mem {F : Int → Int} {qs : List (Int × Int)} {p : Int × Int} (h : p ∈ eachP F qs) : ∃ q ∈ qs, p = (q.1, F q.2) ∧ F q.2 ≠ 0 := by
 unfold eachP at h
 obtain ⟨h1, h2⟩ := List.mem_filter.1 h
 obtain ⟨q, hq, rfl⟩ := List.mem_map.1 h1
 exact ⟨q, hq, rfl, by simpa using h2⟩
theorem eachP_std {F : Int → Int} {qs : List (Int × Int)} (h : Std qs) : Std (eachP F qs) := by
 refine ⟨?_, fun p hp => ?_⟩
 ·unfold eachP
  refine List.Pairwise.filter _ ?_
  rw [List.pairwise_map]
  exact h.1
 ·obtain ⟨q, _, rfl, h0⟩ := eachP_mem hp
  exact h0
theorem eachP_ne {F : Int → Int} {qs : List (Int × Int)} (h : ∀ q ∈ qs, F q.2 ≠ 0) : eachP F qs = qs.map fun q => (q.1, F q.2) := by
 unfold eachP
 refine List.filter_eq_self.2 fun p hp => ?_
 obtain ⟨q, hq, rfl⟩ := List.mem_map.1 hp
 simpa using h q hq
theorem eachP_id {F : Int → Int} {qs : List (Int × Int)} (h : Std qs) (hF : ∀ q ∈ qs, F q.2 = q.2) : eachP F qs = qs := by
 rw [eachP_ne fun q hq => by rw [hF q hq]; exact h.2 q hq]
 conv => rhs; rw [← List.map_id qs]
 exact List.map_congr_left fun q hq => by rw [hF q hq]; rfl
theorem eachP_eachP (F H : Int → Int) (h0 : H 0 = 0) (qs : List (Int × Int)) : eachP H (eachP F qs) = eachP (fun x => H (F x)) qs := by
 induction qs with
 | nil => rfl
 | cons q qs ih =>
  rw [eachP_cons, eachP_cons]
  by_cases h : F q.2 = 0
  ·rw [if_pos h, if_pos (by show H (F q.2) = 0; rw [h, h0]), ih]
  ·rw [if_neg h, eachP_cons, ih]
theorem eachP_congr {F H : Int → Int} {qs : List (Int × Int)} (h : ∀ q ∈ qs, F q.2 = H q.2) : eachP F qs = eachP H qs := by
 induction qs with
 | nil => rfl
 | cons q qs ih => rw [eachP_cons, eachP_cons, h q (by simp), ih fun p hp => h p (by simp [hp])]
theorem eachP_nil {F : Int → Int} {qs : List (Int × Int)} (h : eachP F qs = []) : ∀ q ∈ qs, F q.2 = 0 := fun q hq => by
 apply Classical.byContradiction
 intro h0
 have : (q.1, F q.2) ∈ eachP F qs := List.mem_filter.2 ⟨List.mem_map.2 ⟨q, hq, rfl⟩, by simpa using h0⟩
 rw [h] at this
 cases this
theorem gcdL_dvd (g : Nat) (qs : List (Int × Int)) : gcdL g qs ∣ g ∧ ∀ q ∈ qs, ((gcdL g qs : Nat) : Int) ∣ q.2 := by
 induction qs generalizing g with
 | nil => exact ⟨Nat.dvd_refl _, fun q hq => by cases hq⟩
 | cons p qs ih =>
  obtain ⟨h1, h2⟩ := ih (Nat.gcd g p.2.natAbs)
  refine ⟨Nat.dvd_trans h1 (Nat.gcd_dvd_left _ _), fun q hq => ?_⟩
  rcases List.mem_cons.1 hq with rfl | hq
  ·exact Int.dvd_natAbs.1 (Int.natCast_dvd_natCast.2 (Nat.dvd_trans h1 (Nat.gcd_dvd_right _ _)))
  ·exact h2 q hq
theorem dvd_gcdL {d g : Nat} {qs : List (Int × Int)} (h : d ∣ g) (hq : ∀ q ∈ qs, (d : Int) ∣ q.2) : d ∣ gcdL g qs := by
 induction qs generalizing g with
 | nil => exact h
 | cons p qs ih => exact ih (Nat.dvd_gcd h (Int.natCast_dvd_natCast.1 (Int.dvd_natAbs.2 (hq p (by simp))))) fun q hq' => hq q (by simp [hq'])
theorem gcdL_pos {g : Nat} {qs : List (Int × Int)} (h : 0 < g ∨ ∃ q ∈ qs, q.2 ≠ 0) : 0 < gcdL g qs := by
 apply Nat.pos_of_ne_zero
 intro h0
 obtain ⟨h1, h2⟩ := gcdL_dvd g qs
 rw [h0] at h1 h2
 rcases h with h | ⟨q, hq, h⟩
 ·have := Nat.eq_zero_of_zero_dvd h1; omega
 ·exact h (Int.zero_dvd.1 (h2 q hq))
theorem gcdL_eq {g g' : Nat} {qs rs : List (Int × Int)} (h : ∀ d : Nat, (d ∣ g ∧ ∀ q ∈ qs, (d : Int) ∣ q.2) ↔ (d ∣ g' ∧ ∀ q ∈ rs, (d : Int) ∣ q.2)) : gcdL g qs = gcdL g' rs := by
 have h1 := (h _).1 (gcdL_dvd g qs)
 have h2 := (h _).2 (gcdL_dvd g' rs)
 exact Nat.dvd_antisymm (dvd_gcdL h1.1 h1.2) (dvd_gcdL h2.1 h2.2)
/-- divided by the greatest common divisor nothing is common any more -/
theorem gcdL_div {g : Nat} {qs : List (Int × Int)} {G : Nat} (hG : gcdL g qs = G) (h0 : 0 < G) : gcdL (g / G) (eachP (fun x => x / G) qs) = 1 := by
 obtain ⟨h1, h2⟩ := gcdL_dvd g qs
 rw [hG] at h1 h2
 obtain ⟨a1, a2⟩ := gcdL_dvd (g / G) (eachP (fun x => x / G) qs)
 generalize gcdL (g / G) (eachP (fun x => x / G) qs) = m at *
 have : G * m ∣ G := by
  rw [← hG]
  rw [hG]
  refine Nat.dvd_trans (dvd_gcdL (g := g) (qs := qs) ?_ fun q hq => ?_) (by rw [hG]; exact Nat.dvd_refl _)
  ·obtain ⟨c, hc⟩ := h1
   obtain ⟨e, he⟩ := a1
   rw [hc, Nat.mul_div_cancel_left _ h0] at he
   rw [hc, he]
   exact ⟨e, by rw [Nat.mul_assoc]⟩
  ·obtain ⟨c, hc⟩ := h2 q hq
   have hG0 : (G : Int) ≠ 0 := by omega
   by_cases hc0 : c = 0
   ·rw [hc, hc0, Int.mul_zero]; exact Int.dvd_zero _
   ·have hm : (q.1, q.2 / G) ∈ eachP (fun x => x / (G : Int)) qs := List.mem_filter.2 ⟨List.mem_map.2 ⟨q, hq, rfl⟩, by rw [hc, Int.mul_ediv_cancel_left _ hG0]; simpa using hc0⟩
    obtain ⟨e, he⟩ := a2 _ hm
    simp only at he
    rw [hc, Int.mul_ediv_cancel_left _ hG0] at he
    rw [hc, he]
    exact ⟨e, by rw [Int.natCast_mul, Int.mul_assoc]⟩
 have h3 := Nat.le_of_dvd h0 this
 have : m ∣ 1 := by
  obtain ⟨e, he⟩ := this
  have : G * 1 = G * (m * e) := by rw [Nat.mul_one, ← Nat.mul_assoc]; exact he
  exact ⟨e, Nat.eq_of_mul_eq_mul_left h0 this⟩
 exact Nat.dvd_one.1 this
/-- an atom: its kind, divisor, parts, constant -/
structure Atm where
 kind : Int
 d : Int
 ps : List (Int × Int)
 k : Int
def tru (is : Prop) [Decidable is] : Atm := ⟨if is then 1 else 0, 0, [], 0⟩
/-- the form of '0 is below the term'; parts as they should stand -/
def lessF (qs : List (Int × Int)) (k : Int) : Atm :=
 if qs = [] then tru (0 < k) else ⟨2, 0, eachP (fun x => x / (gcdL 0 qs : Nat)) qs, (k - 1) / (gcdL 0 qs : Nat) + 1⟩
/-- a term and its constant modulo d -/
def oppP (d : Int) (qs : List (Int × Int)) : List (Int × Int) := eachP (fun x => x % d) (eachP (fun x => -x) qs)
/-- of a term and its opposite the one that comes first -/
def fstF (kind d : Int) (us : List (Int × Int)) (k : Int) : Atm :=
 if ordT (oppP d us) us ((-k) % d) k < 0 then ⟨kind, d, oppP d us, (-k) % d⟩ else ⟨kind, d, us, k⟩
/-- the form of a divisibility, where all is taken modulo D already -/
def divG (kind : Int) (D : Nat) (ts : List (Int × Int)) (k : Int) : Atm :=
 if ¬ ((gcdL D ts : Nat) : Int) ∣ k then ⟨if kind = 3 then 0 else 1, 0, [], 0⟩
 else if (D : Int) / (gcdL D ts : Nat) = 1 then ⟨if kind = 3 then 1 else 0, 0, [], 0⟩
 else fstF kind ((D : Int) / (gcdL D ts : Nat)) (eachP (fun x => x / (gcdL D ts : Nat)) ts) (k / (gcdL D ts : Nat))
def divF (kind d : Int) (qs : List (Int × Int)) (k : Int) : Atm := divG kind d.natAbs (eachP (fun x => x % (d.natAbs : Int)) qs) (k % (d.natAbs : Int))
/-- the form of raw parts, the parts as they should stand; or the error -/
def formA (kind d : Int) (qs : List (Int × Int)) (k : Int) : Atm ⊕ Int :=
 if kind = 0 ∨ kind = 1 then .inl ⟨kind, 0, [], 0⟩
 else if kind = 2 then .inl (lessF qs k)
 else if kind = 3 ∨ kind = 4 then (if d = 0 then .inr 11 else .inl (divF kind d qs k))
 else .inr 1

theorem dvd_congr {d x y : Int} (h : d ∣ x - y) : d ∣ x ↔ d ∣ y := by
 constructor
 ·intro hx
  have := Int.dvd_sub hx h
  rwa [show x - (x - y) = y by omega] at this
 ·intro hy
  have := Int.dvd_add h hy
  rwa [show x - y + y = x by omega] at this
theorem dvd_emod (d x : Int) : d ∣ x % d - x := ⟨-(x / d), by have := Int.mul_ediv_add_emod x d; rw [Int.mul_neg]; omega⟩
theorem cmpI_neg (a b : Int) : cmpI b a = -cmpI a b := by unfold cmpI; split <;> split <;> (try split) <;> omega
theorem ordQ_neg (p q : Int × Int) : ordQ q p = -ordQ p q := by
 unfold ordQ
 rw [cmpI_neg p.1 q.1, cmpI_neg p.2 q.2]
 by_cases h : cmpI p.1 q.1 = 0 <;> simp [h]
theorem ordL_neg : ∀ ps qs : List (Int × Int), ordL qs ps = -ordL ps qs
 | [], [] => rfl
 | [], _ :: _ => rfl
 | _ :: _, [] => rfl
 | p :: ps, q :: qs => by
  simp only [ordL]
  rw [ordQ_neg p q, ordL_neg ps qs]
  by_cases h : ordQ p q = 0 <;> simp [h]
theorem ordT_neg (ps qs : List (Int × Int)) (k k2 : Int) : ordT qs ps k2 k = -ordT ps qs k k2 := by
 unfold ordT
 rw [ordL_neg ps qs, cmpI_neg k k2]
 by_cases h : ordL ps qs = 0 <;> simp [h]

/-- a divisibility as it should stand, but for which of both comes first -/
structure Dsh (D : Int) (us : List (Int × Int)) (k : Int) : Prop where
 two : 2 ≤ D
 std : Std us
 some : us ≠ []
 rng : ∀ q ∈ us, 0 < q.2 ∧ q.2 < D
 kr : 0 ≤ k ∧ k < D
 one : gcdL D.natAbs us = 1
theorem opp_eq (D : Int) (us : List (Int × Int)) : oppP D us = eachP (fun x => (-x) % D) us := eachP_eachP _ _ (by simp) us
theorem neg_emod {D x : Int} (h1 : 0 < x) (h2 : x < D) : (-x) % D = D - x := by
 rw [← Int.add_emod_right, Int.emod_eq_of_lt (by omega) (by omega)]
 omega
theorem Dsh.opp {D : Int} {us : List (Int × Int)} {k : Int} (h : Dsh D us k) : Dsh D (oppP D us) ((-k) % D) ∧ oppP D (oppP D us) = us ∧ (-((-k) % D)) % D = k := by
 have hF : ∀ q ∈ us, (-q.2) % D = D - q.2 := fun q hq => neg_emod (h.rng q hq).1 (h.rng q hq).2
 have hne : ∀ q ∈ us, (-q.2) % D ≠ 0 := fun q hq => by rw [hF q hq]; have := h.rng q hq; omega
 have hD := h.two
 have e1 : oppP D us = us.map fun q => (q.1, (-q.2) % D) := by rw [opp_eq, eachP_ne hne]
 refine ⟨⟨h.two, by rw [opp_eq]; exact eachP_std h.std, by rw [e1]; simpa using h.some, fun q hq => ?_, ⟨Int.emod_nonneg _ (by omega), Int.emod_lt_of_pos _ (by omega)⟩, ?_⟩, ?_, ?_⟩
 ·rw [e1] at hq
  obtain ⟨p, hp, rfl⟩ := List.mem_map.1 hq
  simp only
  rw [hF p hp]
  have := h.rng p hp
  omega
 ·rw [← h.one]
  refine gcdL_eq fun d => ?_
  have hd : ∀ p ∈ us, (d : Int) ∣ D → ((d : Int) ∣ (-p.2) % D ↔ (d : Int) ∣ p.2) := fun p hp hdD => by
   rw [dvd_congr (Int.dvd_trans hdD (dvd_emod D (-p.2))), Int.dvd_neg]
  constructor
  ·rintro ⟨h1, h2⟩
   have hdD : (d : Int) ∣ D := Int.dvd_natAbs.1 (Int.natCast_dvd_natCast.2 h1)
   exact ⟨h1, fun p hp => (hd p hp hdD).1 (h2 (p.1, (-p.2) % D) (by rw [e1]; exact List.mem_map.2 ⟨p, hp, rfl⟩))⟩
  ·rintro ⟨h1, h2⟩
   have hdD : (d : Int) ∣ D := Int.dvd_natAbs.1 (Int.natCast_dvd_natCast.2 h1)
   refine ⟨h1, fun q hq => ?_⟩
   rw [e1] at hq
   obtain ⟨p, hp, rfl⟩ := List.mem_map.1 hq
   exact (hd p hp hdD).2 (h2 p hp)
 ·rw [opp_eq D us, opp_eq, eachP_eachP _ _ (by simp)]
  refine eachP_id h.std fun q hq => ?_
  have hr := h.rng q hq
  show (-((-q.2) % D)) % D = q.2
  rw [hF q hq, neg_emod (by omega) (by omega)]
  omega
 ·by_cases h0 : k = 0
  ·subst h0; simp
  ·have := h.kr
   rw [neg_emod (x := k) (by omega) (by omega), neg_emod (by omega) (by omega)]
   omega
/-- an atom as it should stand -/
def Fit (a : Atm) : Prop :=
 ((a.kind = 0 ∨ a.kind = 1) ∧ a.d = 0 ∧ a.ps = [] ∧ a.k = 0) ∨ (a.kind = 2 ∧ a.d = 0 ∧ Std a.ps ∧ a.ps ≠ [] ∧ gcdL 0 a.ps = 1) ∨
 ((a.kind = 3 ∨ a.kind = 4) ∧ Dsh a.d a.ps a.k ∧ ¬ ordT (oppP a.d a.ps) a.ps ((-a.k) % a.d) a.k < 0)
theorem fstF_fit {kind D : Int} {us : List (Int × Int)} {k : Int} (h : Dsh D us k) (hk : kind = 3 ∨ kind = 4) : Fit (fstF kind D us k) := by
 unfold fstF
 split
 ·rename_i ho
  obtain ⟨h1, h2, h3⟩ := h.opp
  refine .inr (.inr ⟨hk, h1, ?_⟩)
  simp only
  rw [h2, h3, ordT_neg (oppP D us) us]
  omega
 ·rename_i ho
  exact .inr (.inr ⟨hk, h, ho⟩)
theorem tru_fit (is : Prop) [Decidable is] : Fit (tru is) := .inl ⟨by unfold tru; split <;> simp, rfl, rfl, rfl⟩
theorem std_some {qs : List (Int × Int)} (hS : Std qs) (h : qs ≠ []) : ∃ q ∈ qs, q.2 ≠ 0 := by
 cases qs with
 | nil => exact absurd rfl h
 | cons q qs => exact ⟨q, by simp, hS.2 q (by simp)⟩
theorem lessF_fit {qs : List (Int × Int)} (hS : Std qs) (k : Int) : Fit (lessF qs k) := by
 unfold lessF
 split
 ·exact tru_fit _
 ·rename_i h
  obtain ⟨q, hq, h0⟩ := std_some hS h
  have hpos : 0 < gcdL 0 qs := gcdL_pos (.inr ⟨q, hq, h0⟩)
  obtain ⟨-, hd⟩ := gcdL_dvd 0 qs
  have h1 := gcdL_div (g := 0) (qs := qs) rfl hpos
  rw [Nat.zero_div] at h1
  refine .inr (.inl ⟨rfl, rfl, eachP_std (F := fun x => x / ((gcdL 0 qs : Nat) : Int)) hS, fun hn => h0 ?_, h1⟩)
  have : q.2 / ((gcdL 0 qs : Nat) : Int) = 0 := eachP_nil (F := fun x => x / ((gcdL 0 qs : Nat) : Int)) hn q hq
  have h2 := Int.mul_ediv_cancel' (hd q hq)
  rw [this, Int.mul_zero] at h2
  exact h2.symm
theorem divG_fit {kind : Int} {D : Nat} (h0 : 0 < D) {ts : List (Int × Int)} {k : Int} (hS : Std ts) (hr : ∀ q ∈ ts, 0 < q.2 ∧ q.2 < (D : Int)) (hk0 : 0 ≤ k ∧ k < (D : Int)) (hk : kind = 3 ∨ kind = 4) : Fit (divG kind D ts k) := by
 obtain ⟨h1, h2⟩ := gcdL_dvd D ts
 have hpos : 0 < gcdL D ts := gcdL_pos (.inl h0)
 have hG := gcdL_div (g := D) (qs := ts) rfl hpos
 unfold divG
 split
 ·exact .inl ⟨by rcases hk with rfl | rfl <;> simp, rfl, rfl, rfl⟩
 ·rename_i hg
  split
  ·exact .inl ⟨by rcases hk with rfl | rfl <;> simp, rfl, rfl, rfl⟩
  ·rename_i h3
   refine fstF_fit ?_ hk
   have hgs : gcdL D ts = D → ts = [] := fun e => by
    cases ts with
    | nil => rfl
    | cons q ts =>
     have hq := h2 q (by simp)
     rw [e] at hq
     have := hr q (by simp)
     have := Int.le_of_dvd this.1 hq
     omega
   have hne : ts ≠ [] := fun e => by
    subst e
    apply h3
    show (D : Int) / (D : Int) = 1
    exact Int.ediv_self (by omega)
   generalize gcdL D ts = g at *
   obtain ⟨e, he⟩ := h1
   have hD : (D : Int) = g * e := by rw [he]; simp
   have hgi : (g : Int) ≠ 0 := by omega
   have hDe : (D : Int) / g = e := by rw [hD, Int.mul_ediv_cancel_left _ hgi]
   have hDn : D / g = e := by rw [he, Nat.mul_div_cancel_left _ hpos]
   rw [hDe] at h3 ⊢
   rw [hDn] at hG
   have he0 : 0 < e := Nat.pos_of_ne_zero fun h => by subst h; simp at he; omega
   have hgk := Classical.not_not.1 hg
   have hq : ∀ q ∈ ts, (g : Int) * (q.2 / g) = q.2 := fun q hq => Int.mul_ediv_cancel' (h2 q hq)
   have hlt : ∀ x : Int, (g : Int) * x < g * e → x < e := fun x hx => Int.lt_of_mul_lt_mul_left hx (by omega)
   have hpx : ∀ x : Int, 0 < (g : Int) * x → 0 < x := fun x hx => Int.pos_of_mul_pos_right hx (by omega)
   refine ⟨by omega, eachP_std hS, fun hn => ?_, fun q hqm => ?_, ?_, by simpa using hG⟩
   ·obtain ⟨q, hqm, hq0⟩ := std_some hS hne
    have : q.2 / (g : Int) = 0 := eachP_nil hn q hqm
    have h4 := hq q hqm
    rw [this, Int.mul_zero] at h4
    exact hq0 h4.symm
   ·obtain ⟨p, hp, rfl, _⟩ := eachP_mem hqm
    have h5 := hq p hp
    have h6 := hr p hp
    rw [← h5, hD] at h6
    exact ⟨hpx _ h6.1, hlt _ h6.2⟩
   ·have h5 := Int.mul_ediv_cancel' hgk
    rw [← h5, hD] at hk0
    exact ⟨Int.ediv_nonneg (by rw [h5] at hk0; exact hk0.1) (by omega), hlt _ hk0.2⟩
theorem divF_fit {kind d : Int} (h0 : d ≠ 0) {qs : List (Int × Int)} (hS : Std qs) (k : Int) (hk : kind = 3 ∨ kind = 4) : Fit (divF kind d qs k) := by
 unfold divF
 have hD : (0 : Int) < d.natAbs := by omega
 refine divG_fit (by omega) (eachP_std hS) (fun q hq => ?_) ⟨Int.emod_nonneg _ (by omega), Int.emod_lt_of_pos _ hD⟩ hk
 obtain ⟨p, _, rfl, hn⟩ := eachP_mem hq
 have h1 := Int.emod_nonneg p.2 (by omega : (d.natAbs : Int) ≠ 0)
 have h2 := Int.emod_lt_of_pos p.2 hD
 simp only at hn ⊢
 omega
theorem formA_fit {kind d : Int} {qs : List (Int × Int)} {k : Int} {a : Atm} (hS : Std qs) (h : formA kind d qs k = .inl a) : Fit a := by
 unfold formA at h
 by_cases h1 : kind = 0 ∨ kind = 1
 ·rw [if_pos h1] at h
  cases h
  exact .inl ⟨h1, rfl, rfl, rfl⟩
 ·rw [if_neg h1] at h
  by_cases h2 : kind = 2
  ·rw [if_pos h2] at h
   cases h
   exact lessF_fit hS k
  ·rw [if_neg h2] at h
   by_cases h3 : kind = 3 ∨ kind = 4
   ·rw [if_pos h3] at h
    by_cases h4 : d = 0
    ·rw [if_pos h4] at h; cases h
    ·rw [if_neg h4] at h
     cases h
     exact divF_fit h4 hS k h3
   ·rw [if_neg h3] at h; cases h
theorem div_one {qs : List (Int × Int)} (h : Std qs) : eachP (fun x => x / ((1 : Nat) : Int)) qs = qs := eachP_id h fun q _ => by simp
theorem Fit.std {a : Atm} (h : Fit a) : Std a.ps := by
 rcases h with ⟨_, _, h, _⟩ | ⟨_, _, h, _⟩ | ⟨_, h, _⟩
 ·rw [h]; exact std_nil
 ·exact h
 ·exact h.std
/-- the form of a form is the form -/
theorem Fit.again {a : Atm} (h : Fit a) : formA a.kind a.d a.ps a.k = .inl a := by
 obtain ⟨kind, d, ps, k⟩ := a
 unfold formA
 rcases h with ⟨h1, h2, h3, h4⟩ | ⟨h1, h2, h3, h4, h5⟩ | ⟨h1, h2, h3⟩
 ·simp only at h1 h2 h3 h4
  subst h2 h3 h4
  rw [if_pos h1]
 ·simp only at h1 h2 h3 h4 h5
  subst h1 h2
  rw [if_neg (by simp), if_pos rfl]
  unfold lessF
  rw [if_neg h4, h5, div_one h3]
  simp
 ·simp only at h1 h2 h3
  have hD := h2.two
  rw [if_neg (by rcases h1 with rfl | rfl <;> simp), if_neg (by rcases h1 with rfl | rfl <;> simp), if_pos h1, if_neg (by show ¬ d = 0; omega)]
  have hDn : (d.natAbs : Int) = d := by omega
  unfold divF
  rw [hDn, eachP_id h2.std (fun q hq => Int.emod_eq_of_lt (by have := h2.rng q hq; omega) (h2.rng q hq).2), Int.emod_eq_of_lt h2.kr.1 h2.kr.2]
  unfold divG
  rw [h2.one, if_neg (by simp [Int.one_dvd]), hDn]
  simp only [Int.natCast_one, Int.ediv_one]
  rw [if_neg (by omega), show eachP (fun x => x) ps = ps from eachP_id h2.std fun q _ => rfl]
  unfold fstF
  rw [if_neg h3]
end Go.Proofs.YtjhhknfnaobmiaaGreatDoor.At

namespace Go.Proofs.YtjhhknfnaobmiaaGreatDoor
open Go.RowKit Go.Sort Go.Shelf
open Tm At

theorem PB.below9 {w w' : World} {b : Nat} {v : Int} {s : Bool} {a : Option Addr} {l c : Nat} (h : PB w b v s a l c) (hb : Below w.heap.size w w') : PB w' b v s a l c := (hb.block b h.lt).trans h

set_option maxRecDepth 100000 in
set_option maxHeartbeats 3200000 in
theorem each_n {w : World} {ad : Option Addr} {n cp : Nat} {s : Bool} {a : Option Addr} {l c : Nat} {ps : List (Int × Int)} {k : Int} {B C kf : Nat} {lb : Array Value} {F : Int → Int} (eg : ∀ args w, (callFunc kf args).run Tryz.prog w = .ok (.enter kf args) w)
  (hf : ∀ w' s a l c z, Below w.heap.size w w' → Zm w' s a l c z → l ≤ B → Calls Tryz.prog kf (#[.agg #[.bool s, .slice a l c]] ++ lb) w' fun e w'' => ∃ s' a' l' c', e = .returned (.agg #[.bool s', .slice a' l' c']) ∧ Zn w'' s' a' l' c' (F z) ∧ Below w'.heap.size w' w'' ∧ l' ≤ C)
  (hP : Pr w ad n ps B) (hz : Zm w s a l c k) (hl : l ≤ B) (hn : n ≤ 268435456) (hC : C ≤ 1099511627776) :
  Calls Tryz.prog 41 #[.agg #[.slice ad n cp, .bool s, .slice a l c], .func (.func kf) #[] lb] w fun e w' => ∃ ad' n' cp' s' a' l' c', e = .returned (.agg #[.slice ad' n' cp', .bool s', .slice a' l' c']) ∧ Pn w' ad' n' (eachP F ps) C ∧ Zn w' s' a' l' c' (F k) ∧ l' ≤ C ∧ n' ≤ n ∧ (∀ b off, ad' = some ⟨b, off, none⟩ → w.heap.size ≤ b) ∧ Below w.heap.size w w' := by
 go_enter Tryz.func41, Tryz.ntmps41
 go_wp2_with fail
 have x := (tb_new w ad n cp s a l c).below (below_alloc _ (.cells #[.slice none 0 0, .bool false, .slice none 0 0] 27))
 have y := tb_new (w.alloc (.cells #[.slice ad n cp, .bool s, .slice a l c] 27)) none 0 0 false none 0 0
 have b0 : Below w.heap.size w ((w.alloc (.cells #[.slice ad n cp, .bool s, .slice a l c] 27)).alloc (.cells #[.slice none 0 0, .bool false, .slice none 0 0] 27)) := below_alloc' (below_alloc _ _) _
 rw [show (w.alloc (.cells #[.slice ad n cp, .bool s, .slice a l c] 27)).heap.size = w.heap.size + 1 from by simp] at y
 generalize (w.alloc (.cells #[.slice ad n cp, .bool s, .slice a l c] 27)).alloc (.cells #[.slice none 0 0, .bool false, .slice none 0 0] 27) = wb at *
 replace hP := hP.below b0
 replace hz := hz.below b0
 have hf2 : Hid (∀ w' s a l c z, Below wb.heap.size wb w' → Zm w' s a l c z → l ≤ B → Calls Tryz.prog kf (#[.agg #[.bool s, .slice a l c]] ++ lb) w' fun e w'' => ∃ s' a' l' c', e = .returned (.agg #[.bool s', .slice a' l' c']) ∧ Zn w'' s' a' l' c' (F z) ∧ Below w'.heap.size w' w'' ∧ l' ≤ C) := (fun w' s a l c z h => hf w' s a l c z (grow_step h b0))
 clear hf
 generalize hp : w.heap.size = p at *
 replace b0 : Hid (Below w.heap.size w wb) := hp ▸ b0
 have hpr : Hid (w.heap.size = p ∧ p < p + 1) := ⟨hp, by omega⟩
 clear hp
 generalize p + 1 = r at *
 obtain ⟨hps, hP⟩ := hP
 go_loopw [5, 12] (fun v i wr => ∃ (t : Nat) (ad3 : Option Addr) (n3 cap3 : Nat) (L3 : List Raw), t ≤ n ∧ i = .int .i64 t ∧ v = .slice ad3 n3 cap3 ∧ Hid (RS wb.heap.size wr (.slice ad3 n3 cap3) n3 cap3 L3) ∧ Hid (Rok wr C L3) ∧ Hid ((L3.take n3).map Raw.p = eachP F (ps.take t)) ∧ n3 ≤ t ∧ Hid (Below wb.heap.size wb wr)) (fun _ i _ => n - (intOf i).toNat)
 case atStart => exact ⟨0, none, 0, 0, [], Nat.zero_le _, rfl, rfl, .inl ⟨rfl, rfl, rfl, rfl⟩, (fun x hx => absurd hx (by simp)), (show _ = _ from rfl), by omega, Below.refl _ _⟩
 case round =>
  obtain ⟨t, ad3, n3, cap3, L3, ht, rfl, rfl, hR3, hok3, hea, hn3, kr⟩ := hrel
  by_cases htn : t < n
  ·rcases hP with hP | ⟨bp, op, rfl, hP⟩
   ·omega
   ·obtain ⟨s2, a2, l2, c2, e0, e1, e2, hz2, hl2, hv⟩ := (hP.below kr.out).2 t (by omega)
    have hstep : Hid (eachP F (ps.take (t + 1)) = eachP F (ps.take t) ++ if F (ps[t]).2 = 0 then [] else [((ps[t]).1, F (ps[t]).2)]) := (show _ = _ by rw [List.take_succ_eq_append_getElem (l := ps) (i := t) (by omega), eachP_snoc])
    generalize ps[t] = pp at *
    obtain ⟨pv, pz⟩ := pp
    dsimp only at *
    have pb : PB (wr.alloc (.cells #[.int .i64 pv, .bool s2, .slice a2 l2 c2] 71)) wr.heap.size pv s2 a2 l2 c2 := pb_new wr pv s2 a2 l2 c2
    have ka := below_alloc wr (.cells #[.int .i64 pv, .bool s2, .slice a2 l2 c2] 71)
    have kb := hide (grow_step ka kr.out)
    have hcall := hide (hf2.out _ s2 a2 l2 c2 pz kb.out (hz2.below ka) hl2)
    have hR4 := hide (hR3.out.below ka)
    have hok4 := hide (hok3.out.below ka)
    clear ka
    go_wp2_with fail
    refine hcall.out.mono ?_
    rintro e w5 ⟨s5, a5, l5, c5, rfl, hz5, k5, hl5⟩
    have kc := hide (below_alloc w5 (.cells #[.bool s5, .slice a5 l5 c5] 24))
    have cb := zb_new w5 s5 a5 l5 c5
    have k6 := hide (grow_step kc.out (grow_step k5 kb.out))
    have hz6 := hide (hz5.below kc.out)
    have pb6 := (pb.below9 k5).below9 kc.out
    have hR6 := hide ((hR4.out.below k5).below kc.out)
    have hok6 := hide ((hok4.out.below k5).below kc.out)
    clear k5 kb hz5 pb hR4 hok4 hcall hR3 hok3
    replace cb := hide cb
    replace pb6 := hide pb6
    go_wp2_with fail
    refine (zsign_n hz6.out.zm (by omega)).mono ?_
    rintro e w7 ⟨rfl, k7⟩
    have cb7 := cb.out.below k7
    have pb7 := pb6.out.below9 k7
    have hz7 := hide (hz6.out.below k7)
    have hR7 := hide (hR6.out.below k7)
    have hok7 := hide (hok6.out.below k7)
    replace k7 := hide (grow_step k7 k6.out)
    clear hz6 hR6 hok6 k6 cb pb6 kc
    generalize w5.heap.size = qc at *
    generalize wr.heap.size = qp at *
    by_cases hz0 : F pz = 0
    ·have hea' : Hid ((L3.take n3).map Raw.p = eachP F (ps.take (t + 1))) := (show _ = _ by rw [hstep.out, hea.out]; simp [hz0])
     rw [hz0, show cmpI 0 0 = 0 from rfl]
     go_wp2_with fail
     exact ⟨⟨t + 1, ad3, n3, cap3, L3, by omega, by go_num, rfl, hR7, hok7, hea', by omega, k7⟩, by simp [intOf]; omega⟩
    ·have hc : cmpI (F pz) 0 ≠ 0 := by unfold cmpI; split <;> (try split) <;> omega
     generalize cmpI (F pz) 0 = cz at *
     have t0 := pb7.c0
     have u0 := cb7.c0
     have u1 := cb7.c1
     have hcq := cb7.lt
     have hpq := pb7.lt
     have kz := below_alloc w7 (.cells #[.int .i64 pv, .bool s5, .slice a5 l5 c5] 71)
     have happ := hide (run_append_rs (w0 := wb) (hR7.out.below kz) (grow_step kz k7.out) ⟨pv, s5, a5, l5, c5, F pz⟩ ⟨w7.heap.size, 0, none⟩ (v3_new w7 pv s5 a5 l5 c5) (by omega))
     replace kz := hide kz
     go_wp2_with (at_builtin; refine wpList_append_run rfl _ _ 25 rfl _ _ rfl rfl _ (happ.out _) ?_; rintro v5 w8 ⟨cap5, L5, hR5, htk, hmem, hb5, hg5, -⟩; obtain ⟨ad5, rfl⟩ := hR5.row; replace hR5 := hide hR5; replace hmem := hide hmem; replace hb5 := hide hb5; replace hg5 := hide hg5; replace htk := hide htk)
     have ok5 : Hid (Rok w8 C L5) := fun y hy => by
      rcases hmem.out y hy with h | rfl | rfl
      ·exact ⟨(hR7.out.below kz.out).zn hg5.out ((hok7.out y h).1.below kz.out), (hok7.out y h).2⟩
      ·exact ⟨(hR7.out.below kz.out).zn hg5.out (hz7.out.below kz.out), hl5, hv⟩
      ·exact zr_ok _ _
     have hea' : Hid ((L5.take (n3 + 1)).map Raw.p = eachP F (ps.take (t + 1))) := (show _ = _ by rw [htk.out, List.map_append, hea.out, hstep.out]; simp [Raw.p, hz0])
     exact ⟨⟨t + 1, ad5, n3 + 1, cap5, L5, by omega, by go_num, rfl, hR5, ok5, hea', by omega, hb5⟩, by simp [intOf]; omega⟩
  ·obtain rfl : t = n := by omega
   rw [List.take_of_length_le (Nat.le_of_eq hps)] at hea
   have xr := x.below kr.out
   have yr := y.below kr.out
   have x1 := xr.c1
   have x2 := xr.c2
   have hcall := hide (hf2.out wr s a l c k kr.out (hz.below kr.out) hl)
   go_wp2_with fail
   refine hcall.out.mono ?_
   rintro e w5 ⟨s5, a5, l5, c5, rfl, hz5, k5, hl5⟩
   have y5 := yr.below k5
   have y0 := y5.c0
   have y1 := y5.c1
   have y2 := y5.c2
   have y3 := y5.f 0
   have y4 := y5.f 1
   have y6 := y5.f 2
   have g := tb_set w5 r (.slice ad3 n3 cap3) (.bool s5) (.slice a5 l5 c5)
   have hzf := hide (hz5.grownU g (tb_noU y5))
   have hRf := hide ((hR3.out.below k5).grown g y.lt)
   have hokf := hide ((hok3.out.below k5).grownU g (tb_noU y5))
   have kf := hide (below_grown (grow_step (grow_step k5 kr.out) b0.out) g (by have := hpr.out; omega))
   clear g k5 hcall x1 x2
   go_wp2
   refine bodyPost_ret (results_cell_row rfl _ _ r 27 _ (0, 0) _ rfl (tb_fin y5 ad3 n3 cap3 s5 a5 l5 c5) Tryz.underlying27 rfl (by kernel_rfl)) rfl ?_
   have hpn := rs_pn hRf.out hokf.out
   rw [hea.out] at hpn
   have hnew : ∀ b off, ad3 = some ⟨b, off, none⟩ → w.heap.size ≤ b := fun b off e => by
    rcases hRf.out with ⟨h1, _⟩ | ⟨g, h1, hg, _⟩
    ·simp at h1
     rw [h1.1] at e
     cases e
    ·simp at h1
     rw [h1] at e
     simp at e
     have := b0.out.size
     omega
   exact ⟨ad3, n3, cap3, s5, a5, l5, c5, by simp, hpn, hzf.out, hl5, by omega, hnew, kf.out⟩
end Go.Proofs.YtjhhknfnaobmiaaGreatDoor

namespace Go.Proofs.YtjhhknfnaobmiaaGreatDoor
open Go.RowKit Go.Sort Go.Shelf
open Tm At

set_option maxRecDepth 100000 in
set_option maxHeartbeats 1600000 in
theorem mod1_n {w : World} {b : Nat} {s : Bool} {a : Option Addr} {l c : Nat} {z : Int} {s2 : Bool} {a2 : Option Addr} {l2 c2 : Nat} {d : Int} (y : ZB w b s2 a2 l2 c2) (hz : Zm w s a l c z) (hd : Zm w s2 a2 l2 c2 d) (hl : l ≤ 1099511627776) (hl2 : l2 ≤ 1099511627776) (h0 : 0 < d) :
  Calls Tryz.prog 135 (#[.agg #[.bool s, .slice a l c]] ++ #[.pointer (some ⟨b, 0, none⟩)]) w fun e w' => ∃ s' a' l' c', e = .returned (.agg #[.bool s', .slice a' l' c']) ∧ Zn w' s' a' l' c' (z % d) ∧ Below w.heap.size w w' ∧ l' ≤ l2 := by
 show Calls Tryz.prog 135 #[.agg #[.bool s, .slice a l c], .pointer (some ⟨b, 0, none⟩)] w _
 go_enter Tryz.func135, Tryz.ntmps135
 have y0 := y.c0
 have y1 := y.c1
 have hbl := y.lt
 go_wp2_with fail
 have r0 := zb_new (w.alloc (.cells #[.bool s, .slice a l c] 24)) false none 0 0
 have b0 : Below w.heap.size w ((w.alloc (.cells #[.bool s, .slice a l c] 24)).alloc (.cells #[.bool false, .slice none 0 0] 24)) := below_alloc' (below_alloc _ _) _
 rw [show (w.alloc (.cells #[.bool s, .slice a l c] 24)).heap.size = w.heap.size + 1 from by simp] at r0
 generalize (w.alloc (.cells #[.bool s, .slice a l c] 24)).alloc (.cells #[.bool false, .slice none 0 0] 24) = wb at *
 have hr : w.heap.size ≤ w.heap.size + 1 := by omega
 generalize w.heap.size + 1 = r at *
 refine (remainder_n (hz.below b0) (hd.below b0) hl hl2 h0).mono ?_
 rintro e w1 ⟨s', a', l', c', rfl, hz1, k1, hl1⟩
 have r1 := r0.below k1
 have r2 := r1.c0
 have r3 := r1.c1
 have r4 := r1.f 0
 have r5 := r1.f 1
 have hzf := hide (zb_zn r1 hz1 s' a' l' c')
 have kf := hide (((grow_step k1 b0).setCell (p := ⟨r, 0, none⟩) hr (.bool s')).setCell (p := ⟨r, 1, none⟩) hr (.slice a' l' c'))
 clear y0 y1 k1 b0
 go_wp2
 refine bodyPost_ret (results_cell_row rfl _ _ r 24 _ (0, 0) _ rfl (zb_fin r1 s' a' l' c') Tryz.underlying24 rfl (by kernel_rfl)) rfl ?_
 exact ⟨s', a', l', c', by simp, hzf.out, kf.out, hl1⟩
set_option maxRecDepth 100000 in
set_option maxHeartbeats 1600000 in
theorem less1_n {w : World} {b : Nat} {s : Bool} {a : Option Addr} {l c : Nat} {z : Int} {s2 : Bool} {a2 : Option Addr} {l2 c2 : Nat} {d : Int} (y : ZB w b s2 a2 l2 c2) (hz : Zm w s a l c z) (hd : Zm w s2 a2 l2 c2 d) (hl : l ≤ 1099511627776) (hl2 : l2 ≤ 1099511627776) (h0 : 0 < d) :
  Calls Tryz.prog 42 (#[.agg #[.bool s, .slice a l c]] ++ #[.pointer (some ⟨b, 0, none⟩)]) w fun e w' => ∃ s' a' l' c', e = .returned (.agg #[.bool s', .slice a' l' c']) ∧ Zn w' s' a' l' c' (z / d) ∧ Below w.heap.size w w' ∧ l' ≤ l + 3 := by
 show Calls Tryz.prog 42 #[.agg #[.bool s, .slice a l c], .pointer (some ⟨b, 0, none⟩)] w _
 go_enter Tryz.func42, Tryz.ntmps42
 have y0 := y.c0
 have y1 := y.c1
 have hbl := y.lt
 go_wp2_with fail
 have r0 := zb_new (w.alloc (.cells #[.bool s, .slice a l c] 24)) false none 0 0
 have b0 : Below w.heap.size w ((w.alloc (.cells #[.bool s, .slice a l c] 24)).alloc (.cells #[.bool false, .slice none 0 0] 24)) := below_alloc' (below_alloc _ _) _
 rw [show (w.alloc (.cells #[.bool s, .slice a l c] 24)).heap.size = w.heap.size + 1 from by simp] at r0
 generalize (w.alloc (.cells #[.bool s, .slice a l c] 24)).alloc (.cells #[.bool false, .slice none 0 0] 24) = wb at *
 have hr : w.heap.size ≤ w.heap.size + 1 := by omega
 generalize w.heap.size + 1 = r at *
 refine (quotient_n (hz.below b0) (hd.below b0) hl hl2 h0).mono ?_
 rintro e w1 ⟨s', a', l', c', rfl, hz1, k1, hl1⟩
 have r1 := r0.below k1
 have r2 := r1.c0
 have r3 := r1.c1
 have r4 := r1.f 0
 have r5 := r1.f 1
 have hzf := hide (zb_zn r1 hz1 s' a' l' c')
 have kf := hide (((grow_step k1 b0).setCell (p := ⟨r, 0, none⟩) hr (.bool s')).setCell (p := ⟨r, 1, none⟩) hr (.slice a' l' c'))
 clear y0 y1 k1 b0
 go_wp2
 refine bodyPost_ret (results_cell_row rfl _ _ r 24 _ (0, 0) _ rfl (zb_fin r1 s' a' l' c') Tryz.underlying24 rfl (by kernel_rfl)) rfl ?_
 exact ⟨s', a', l', c', by simp, hzf.out, kf.out, hl1⟩
set_option maxRecDepth 100000 in
set_option maxHeartbeats 1600000 in
theorem divi1_n {w : World} {b : Nat} {s : Bool} {a : Option Addr} {l c : Nat} {z : Int} {s2 : Bool} {a2 : Option Addr} {l2 c2 : Nat} {d : Int} (y : ZB w b s2 a2 l2 c2) (hz : Zm w s a l c z) (hd : Zm w s2 a2 l2 c2 d) (hl : l ≤ 1099511627776) (hl2 : l2 ≤ 1099511627776) (h0 : 0 < d) :
  Calls Tryz.prog 96 (#[.agg #[.bool s, .slice a l c]] ++ #[.pointer (some ⟨b, 0, none⟩)]) w fun e w' => ∃ s' a' l' c', e = .returned (.agg #[.bool s', .slice a' l' c']) ∧ Zn w' s' a' l' c' (z / d) ∧ Below w.heap.size w w' ∧ l' ≤ l + 3 := by
 show Calls Tryz.prog 96 #[.agg #[.bool s, .slice a l c], .pointer (some ⟨b, 0, none⟩)] w _
 go_enter Tryz.func96, Tryz.ntmps96
 have y0 := y.c0
 have y1 := y.c1
 have hbl := y.lt
 go_wp2_with fail
 have r0 := zb_new (w.alloc (.cells #[.bool s, .slice a l c] 24)) false none 0 0
 have b0 : Below w.heap.size w ((w.alloc (.cells #[.bool s, .slice a l c] 24)).alloc (.cells #[.bool false, .slice none 0 0] 24)) := below_alloc' (below_alloc _ _) _
 rw [show (w.alloc (.cells #[.bool s, .slice a l c] 24)).heap.size = w.heap.size + 1 from by simp] at r0
 generalize (w.alloc (.cells #[.bool s, .slice a l c] 24)).alloc (.cells #[.bool false, .slice none 0 0] 24) = wb at *
 have hr : w.heap.size ≤ w.heap.size + 1 := by omega
 generalize w.heap.size + 1 = r at *
 refine (quotient_n (hz.below b0) (hd.below b0) hl hl2 h0).mono ?_
 rintro e w1 ⟨s', a', l', c', rfl, hz1, k1, hl1⟩
 have r1 := r0.below k1
 have r2 := r1.c0
 have r3 := r1.c1
 have r4 := r1.f 0
 have r5 := r1.f 1
 have hzf := hide (zb_zn r1 hz1 s' a' l' c')
 have kf := hide (((grow_step k1 b0).setCell (p := ⟨r, 0, none⟩) hr (.bool s')).setCell (p := ⟨r, 1, none⟩) hr (.slice a' l' c'))
 clear y0 y1 k1 b0
 go_wp2
 refine bodyPost_ret (results_cell_row rfl _ _ r 24 _ (0, 0) _ rfl (zb_fin r1 s' a' l' c') Tryz.underlying24 rfl (by kernel_rfl)) rfl ?_
 exact ⟨s', a', l', c', by simp, hzf.out, kf.out, hl1⟩

set_option maxRecDepth 100000 in
set_option maxHeartbeats 1600000 in
theorem modulo_n {w : World} {ad : Option Addr} {n cp : Nat} {s : Bool} {a : Option Addr} {l c : Nat} {ps : List (Int × Int)} {k : Int} {s2 : Bool} {a2 : Option Addr} {l2 c2 : Nat} {d : Int} {B : Nat} (hP : Pr w ad n ps B) (hz : Zm w s a l c k) (hl : l ≤ B) (hd : Zm w s2 a2 l2 c2 d) (h0 : 0 < d) (hn : n ≤ 268435456) (hB : B ≤ 1099511627776) (hl2 : l2 ≤ 1099511627776) :
  Calls Tryz.prog 95 #[.agg #[.slice ad n cp, .bool s, .slice a l c], .agg #[.bool s2, .slice a2 l2 c2]] w fun e w' => ∃ ad' n' cp' s' a' l' c', e = .returned (.agg #[.slice ad' n' cp', .bool s', .slice a' l' c']) ∧ Pn w' ad' n' (eachP (fun x => x % d) ps) l2 ∧ Zn w' s' a' l' c' (k % d) ∧ l' ≤ l2 ∧ n' ≤ n ∧ (∀ b off, ad' = some ⟨b, off, none⟩ → w.heap.size ≤ b) ∧ Below w.heap.size w w' := by
 have eg : ∀ args w, (callFunc 135 args).run Tryz.prog w = .ok (.enter 135 args) w := enters_of Tryz.func135 (by kernel_rfl) rfl
 go_enter Tryz.func95, Tryz.ntmps95
 go_wp2_with fail
 have yd := (zb_new (w.alloc (.cells #[.slice ad n cp, .bool s, .slice a l c] 27)) s2 a2 l2 c2).below (below_alloc _ (.cells #[.slice none 0 0, .bool false, .slice none 0 0] 27))
 have yr := tb_new ((w.alloc (.cells #[.slice ad n cp, .bool s, .slice a l c] 27)).alloc (.cells #[.bool s2, .slice a2 l2 c2] 24)) none 0 0 false none 0 0
 have b0 : Below w.heap.size w (((w.alloc (.cells #[.slice ad n cp, .bool s, .slice a l c] 27)).alloc (.cells #[.bool s2, .slice a2 l2 c2] 24)).alloc (.cells #[.slice none 0 0, .bool false, .slice none 0 0] 27)) := below_alloc' (below_alloc' (below_alloc _ _) _) _
 rw [show (w.alloc (.cells #[.slice ad n cp, .bool s, .slice a l c] 27)).heap.size = w.heap.size + 1 from by simp] at yd
 rw [show ((w.alloc (.cells #[.slice ad n cp, .bool s, .slice a l c] 27)).alloc (.cells #[.bool s2, .slice a2 l2 c2] 24)).heap.size = w.heap.size + 1 + 1 from by simp] at yr
 generalize ((w.alloc (.cells #[.slice ad n cp, .bool s, .slice a l c] 27)).alloc (.cells #[.bool s2, .slice a2 l2 c2] 24)).alloc (.cells #[.slice none 0 0, .bool false, .slice none 0 0] 27) = wb at *
 have hr : w.heap.size ≤ w.heap.size + 1 + 1 := by omega
 replace hP := hP.below b0
 replace hz := hz.below b0
 replace hd := hd.below b0
 generalize w.heap.size + 1 + 1 = r at *
 generalize w.heap.size + 1 = q at *
 refine (each_n (F := fun x => x % d) (C := l2) (B := B) eg (fun w' s5 a5 l5 c5 z5 hb5 hz5 hl5 => mod1_n (yd.below hb5) hz5 (hd.below hb5) (by omega) hl2 h0) hP hz hl hn hl2).mono ?_
 rintro e w1 ⟨ad1, n1, cp1, s1, a1, l1, c1, rfl, hP1, hz1, hl1, hn1, hnew, k1⟩
 have y5 := yr.below k1
 have y0 := y5.c0
 have y1 := y5.c1
 have y2 := y5.c2
 have y3 := y5.f 0
 have y4 := y5.f 1
 have y6 := y5.f 2
 have g := tb_set w1 r (.slice ad1 n1 cp1) (.bool s1) (.slice a1 l1 c1)
 have hzf := hide (hz1.grownU g (tb_noU y5))
 have hPf := hide (hP1.tb y5 g)
 have kf := hide (below_grown (grow_step k1 b0) g hr)
 have hnew' := hide (fun (b off : Nat) (e : ad1 = some ⟨b, off, none⟩) => Nat.le_trans b0.size (hnew b off e))
 clear g k1 b0 eg hnew
 go_wp2
 refine bodyPost_ret (results_cell_row rfl _ _ r 27 _ (0, 0) _ rfl (tb_fin y5 ad1 n1 cp1 s1 a1 l1 c1) Tryz.underlying27 rfl (by kernel_rfl)) rfl ?_
 exact ⟨ad1, n1, cp1, s1, a1, l1, c1, by simp, hPf.out, hzf.out, hl1, hn1, hnew'.out, kf.out⟩
end Go.Proofs.YtjhhknfnaobmiaaGreatDoor

namespace Go.Proofs.YtjhhknfnaobmiaaGreatDoor
open Go.RowKit Go.Sort Go.Shelf
open Tm At

theorem getD_at {N : List Raw} {i : Nat} (h : i < N.length) : N.getD i zr = N[i] := by simp [List.getElem?_eq_getElem h]
def encN (x : Raw) : List Value := [.bool x.s, .slice x.a x.l x.c]
def okN (w : World) (B : Nat) (x : Raw) : Prop := Zm w x.s x.a x.l x.c x.z ∧ x.l ≤ B
theorem okN.below {w w' : World} {B : Nat} {x : Raw} (h : okN w B x) (hb : Below w.heap.size w w') : okN w' B x := ⟨h.1.below hb, h.2⟩
theorem info2 : (Tryz.prog.info? 24).map (fun i => (i.zero, i.size, i.bytes)) = some (some (.agg #[.bool false, .slice none 0 0]), 2, 32) := by kernel_rfl
theorem two_one (s : Bool) (a : Option Addr) (l c : Nat) : ∀ u ∈ [Value.bool s, .slice a l c], u.oneCell' = true := by
 intro u h
 simp at h
 rcases h with rfl | rfl <;> rfl
theorem two_new (w : World) (s : Bool) (a : Option Addr) (l c : Nat) : ∀ j u, [Value.bool s, .slice a l c][j]? = some u → (w.alloc (.cells #[.bool s, .slice a l c] 24)).cell? ((⟨w.heap.size, 0, none⟩ : Addr).add j) = some u := by
 intro j u h
 have y := zb_new w s a l c
 match j, h with
 | 0, h => simp at h; subst h; exact y.c0
 | 1, h => simp at h; subst h; exact y.c1
 | j + 2, h => simp at h
theorem flatN_get (xs : List Raw) : ∀ (i c : Nat) (h : i < xs.length), c < 2 → (xs.flatMap encN)[i * 2 + c]? = (encN (xs[i]))[c]? := by
 induction xs with
 | nil => intro i c h; simp at h
 | cons x xs ih =>
  intro i c h hc
  rw [List.flatMap_cons]
  match i, h with
  | 0, _ => rw [List.getElem?_append_left (by simp [encN]; omega)]; simp
  | i + 1, h =>
   rw [List.getElem?_append_right (by simp [encN]; omega), show (i + 1) * 2 + c - (encN x).length = i * 2 + c by simp [encN]; omega]
   exact ih i c (by simpa using h) hc
/-- a row of numbers, as a list that Gcd takes -/
theorem row_zl {w : World} {base n B : Nat} {v : Value} {N : List Raw} (h : w.ownsRow base 24 2 v n (N.flatMap encN)) (hn : N.length = n) (hok : ∀ x ∈ N, okN w B x) (hB : B ≤ 4294967296) (h0 : 0 < w.heap.size) :
  ∃ (adl : Option Addr) (cap b : Nat), v = .slice adl n cap ∧ (0 < n → adl = some ⟨b, 0, none⟩) ∧ ZL w b 0 n (fun i => (N.getD i zr).s) (fun i => (N.getD i zr).a) (fun i => (N.getD i zr).l) (fun i => (N.getD i zr).c) (fun i => ((N.getD i zr).z.natAbs : Int)) := by
 have hnm : ∀ i, i < n → Nm w (N.getD i zr).a (N.getD i zr).l (N.getD i zr).c ((N.getD i zr).z.natAbs : Int) ∧ (N.getD i zr).l ≤ 4294967296 := fun i hi => by
  have hm : N.getD i zr ∈ N := by rw [getD_at (by omega)]; exact List.getElem_mem _
  obtain ⟨⟨m, hN, hz⟩, hl⟩ := hok _ hm
  have h0 := hN.nonneg
  refine ⟨?_, by omega⟩
  rw [hz, show ((sg (N.getD i zr).s m).natAbs : Int) = m by cases (N.getD i zr).s <;> simp [sg] <;> omega]
  exact hN
 rcases h.2 with ⟨rfl, rfl⟩ | ⟨g, cap, cur, rfl, hg, hcur, hsz, hcap, hm, htake⟩
 ·exact ⟨none, 0, 0, rfl, fun h => by omega, ⟨h0, fun i hi => by omega, fun i hi => by omega, fun i hi => by omega, fun i hi => by omega⟩⟩
 ·have hc : ∀ i c, i < n → c < 2 → w.cell? ⟨g, 0 + i * 2 + c, none⟩ = (encN (N.getD i zr))[c]? := fun i c hi hc => by
   have e : (cur.toList.take (n * 2))[i * 2 + c]? = (encN (N.getD i zr))[c]? := by rw [htake, flatN_get N i c (by omega) hc, getD_at (by omega)]
   rw [List.getElem?_take, if_pos (by omega)] at e
   rw [cell_of_row w g _ _ _ (0, 0) hcur, Nat.zero_add]
   simpa using e
  refine ⟨_, cap, g, rfl, fun _ => rfl, ⟨(Array.getElem?_eq_some_iff.1 hcur).1, fun i hi => by have := hc i 0 hi (by omega); simpa [encN] using this, fun i hi => by have := hc i 1 hi (by omega); simpa [encN] using this, fun i hi => (hnm i hi).1, fun i hi => (hnm i hi).2⟩⟩
def gcdZ (zs : List Int) : Nat := zs.foldl (fun g z => Nat.gcd g z.natAbs) 0
theorem fold_gcd (N : List Raw) : ∀ n, n ≤ N.length → fold gcdI 0 (fun i => ((N.getD i zr).z.natAbs : Int)) n = (gcdZ ((N.take n).map Raw.z) : Int) := by
 intro n
 induction n with
 | zero => intro _; rfl
 | succ n ih =>
  intro h
  rw [List.take_succ_eq_append_getElem (by omega), List.map_append]
  simp only [fold]
  rw [ih (by omega)]
  unfold gcdZ
  rw [List.foldl_append]
  simp only [List.map_cons, List.map_nil, List.foldl_cons, List.foldl_nil]
  unfold gcdI
  rw [Int.toNat_natCast, Int.toNat_natCast, getD_at (by omega)]
theorem foldL_le (N : List Raw) (B : Nat) (h : ∀ x ∈ N, x.l ≤ B) : ∀ n, n ≤ N.length → foldL 2 (fun i => (N.getD i zr).l) n ≤ n * B + 2 := by
 intro n
 induction n with
 | zero => intro _; simp [foldL]
 | succ n ih =>
  intro hn
  simp only [foldL]
  have h1 := ih (by omega)
  have h2 : (N.getD n zr).l ≤ B := by rw [getD_at (by omega)]; exact h _ (List.getElem_mem _)
  rw [Nat.add_mul, Nat.one_mul]
  omega
theorem gcdZ_gcdL (zs : List Int) (ps : List (Int × Int)) : gcdZ (zs ++ ps.map Prod.snd) = gcdL (gcdZ zs) ps := by
 unfold gcdZ gcdL
 rw [List.foldl_append, List.foldl_map]

set_option maxRecDepth 100000 in
set_option maxHeartbeats 1600000 in
theorem common_n {w0 w : World} {v0 : Value} {m : Nat} {N0 : List Raw} {ad : Option Addr} {n cp : Nat} {s : Bool} {a : Option Addr} {l c : Nat} {ps : List (Int × Int)} {B : Nat} (hb0 : Below w0.heap.size w0 w) (hP : Pr w0 ad n ps B) (hrow0 : w.ownsRow w0.heap.size 24 2 v0 m (N0.flatMap encN)) (hm : N0.length = m) (hok0 : ∀ x ∈ N0, okN w0 B x) (hpos : 0 < m + n) (hn : m + n ≤ 262145) (hB : B ≤ 4194000) :
  Calls Tryz.prog 37 #[.agg #[.slice ad n cp, .bool s, .slice a l c], v0] w fun e w' => ∃ s' a' l' c', e = .returned (.agg #[.bool s', .slice a' l' c']) ∧ Zn w' s' a' l' c' (gcdL (gcdZ (N0.map Raw.z)) ps) ∧ l' ≤ (m + n) * B + 2 ∧ Below w0.heap.size w0 w' := by
 go_enter Tryz.func37, Tryz.ntmps37
 go_wp2_with fail
 have y := zb_new (w.alloc (.cells #[.slice ad n cp, .bool s, .slice a l c] 27)) false none 0 0
 have b1 : Below w0.heap.size w0 ((w.alloc (.cells #[.slice ad n cp, .bool s, .slice a l c] 27)).alloc (.cells #[.bool false, .slice none 0 0] 24)) := grow_alloc (grow_alloc hb0 _) _
 have hrow1 := (hrow0.alloc (.cells #[.slice ad n cp, .bool s, .slice a l c] 27)).alloc (.cells #[.bool false, .slice none 0 0] 24)
 rw [show (w.alloc (.cells #[.slice ad n cp, .bool s, .slice a l c] 27)).heap.size = w.heap.size + 1 from by simp] at y
 generalize (w.alloc (.cells #[.slice ad n cp, .bool s, .slice a l c] 27)).alloc (.cells #[.bool false, .slice none 0 0] 24) = wb at *
 have hrb : Hid (w0.heap.size ≤ w.heap.size + 1) := (by have := hb0.size; omega : w0.heap.size ≤ w.heap.size + 1)
 have hown0 : Hid (∀ g, v0.ownBlock = some g → g ≠ w.heap.size + 1) := (fun g e => by have := (hrow0.lt g e).2; omega)
 generalize w.heap.size + 1 = r at *
 obtain ⟨hps, hP⟩ := hP
 obtain ⟨i0, hi, iz0, iz1, iz2⟩ := info_parts info2
 replace hok0 := hide hok0
 go_loopw [1, 10] (fun vv i wr => ∃ (t : Nat) (N : List Raw), t ≤ n ∧ i = .int .i64 t ∧ N.length = m + t ∧ wr.ownsRow w0.heap.size 24 2 vv (m + t) (N.flatMap encN) ∧ Hid (∀ x ∈ N, okN w0 B x) ∧ Hid (N.map Raw.z = N0.map Raw.z ++ (ps.take t).map Prod.snd) ∧ Below w0.heap.size w0 wr ∧ Hid (ZB wr r false none 0 0) ∧ Hid (∀ g, vv.ownBlock = some g → g ≠ r)) (fun _ i _ => n - (intOf i).toNat)
 case atStart => exact ⟨0, N0, Nat.zero_le _, rfl, by omega, hrow1, hok0, (show _ = _ by simp), b1, y, hown0⟩
 case round =>
  obtain ⟨t, N, ht, rfl, hN, hrow, hok, hNz, kr, yr, hob⟩ := hrel
  by_cases htn : t < n
  ·rcases hP with hP | ⟨bp, op, rfl, hP⟩
   ·omega
   ·obtain ⟨s2, a2, l2, c2, e0, e1, e2, hz2, hl2, hv⟩ := (hP.below kr).2 t (by omega)
    obtain ⟨s3, a3, l3, c3, f0, f1, f2, hz3, hl3, -⟩ := hP.2 t (by omega)
    have hps' : Hid (ps.take (t + 1) = ps.take t ++ [ps[t]]) := List.take_succ_eq_append_getElem (l := ps) (i := t) (by omega)
    have hsame : s2 = s3 ∧ a2 = a3 ∧ l2 = l3 ∧ c2 = c3 := by
     have g1 := e1.symm.trans ((kr.cell (p := ⟨bp, op + t * 3 + 1, none⟩) hP.1).trans f1)
     have g2 := e2.symm.trans ((kr.cell (p := ⟨bp, op + t * 3 + 2, none⟩) hP.1).trans f2)
     simp at g1 g2
     exact ⟨g1, g2.1, g2.2.1, g2.2.2⟩
    obtain ⟨rfl, rfl, rfl, rfl⟩ := hsame
    clear f0 f1 f2
    generalize ps[t] = pp at *
    have hbase := hide (show w0.heap.size ≤ wr.heap.size from kr.size)
    have ka := below_alloc wr (.cells #[.int .i64 pp.1, .bool s2, .slice a2 l2 c2] 71)
    have kb := below_alloc (wr.alloc (.cells #[.int .i64 pp.1, .bool s2, .slice a2 l2 c2] 71)) (.cells #[.bool s2, .slice a2 l2 c2] 24)
    have kab := hide (grow_step kb ka)
    clear ka kb
    go_wp2_with (at_builtin; refine wpList_append_own_at _ rfl _ _ 68 rfl w0.heap.size 24 i0 _ 2 32 Tryz.underlying68 hi iz0 iz1 iz2 rfl (by decide) _ _ _ rfl ((hrow.alloc _).alloc _) ⟨wr.heap.size + 1, 0, none⟩ 1 1 [.bool s2, .slice a2 l2 c2] rfl rfl (by simpa using two_new (wr.alloc (.cells #[.int .i64 pp.1, .bool s2, .slice a2 l2 c2] 71)) s2 a2 l2 c2) (two_one _ _ _ _) (by unfold maxLen; omega) (by omega) (by have := hbase.out; simp; omega) ?_; intro v' w4 hown' hgrow hnil hat')
    have k4 : Below w0.heap.size w0 w4 := (grow_step kab.out kr).grown hgrow (grow_step kab.out kr).size (fun k e => (hrow.lt k e).1)
    have hrl := yr.out.lt
    have y4 : Hid (ZB w4 r false none 0 0) := (hgrow.block r (by simp; omega) (fun e => hob.out r e.symm rfl)).trans ((kab.out.block r hrl).trans yr.out)
    have hob4 : Hid (∀ g, v'.ownBlock = some g → g ≠ r) := (fun g e => by
     rcases hat' with h | h
     ·exact hob.out g (h.symm.trans e)
     ·rw [h] at e
      simp at e
      omega)
    refine ⟨⟨t + 1, N ++ [⟨pp.1, s2, a2, l2, c2, pp.2⟩], by omega, by go_num, by simp; omega, ?_, ?_, ?_, k4, y4, hob4⟩, by simp [intOf]; omega⟩
    ·rw [List.flatMap_append]
     exact hown'
    ·exact fun x hx => (List.mem_append.1 hx).elim (hok.out x) (fun h => by rw [List.mem_singleton.1 h]; exact ⟨hz3, hl3⟩)
    ·show _ = _
     rw [List.map_append, hNz.out, hps'.out, List.map_append, List.append_assoc]
     rfl
  ·obtain rfl : t = n := by omega
   rw [List.take_of_length_le (Nat.le_of_eq hps)] at hNz
   have hokr : ∀ x ∈ N, okN wr B x := fun x hx => (hok.out x hx).below kr
   obtain ⟨adl, cap, b, rfl, had, hZL⟩ := row_zl hrow (by omega) hokr (by omega) (by have := yr.out.lt; omega)
   obtain rfl := had hpos
   have hfl := foldL_le N B (fun x hx => (hok.out x hx).2) (m + t) (by omega)
   have hmul : (m + t) * B ≤ 262145 * 4194000 := Nat.mul_le_mul hn hB
   have hval : Hid (fold gcdI 0 (fun i => ((N.getD i zr).z.natAbs : Int)) (m + t) = (gcdL (gcdZ (N0.map Raw.z)) ps : Int)) := (show _ = _ by
    rw [fold_gcd N (m + t) (by omega), List.take_of_length_le (by omega), hNz.out, gcdZ_gcdL])
   clear hrow hokr hP
   go_wp2_with fail
   refine (zgcd_any hZL (by omega) (by omega)).mono ?_
   rintro e w5 ⟨s5, a5, l5, c5, rfl, hz5, k5, hl5⟩
   rw [hval.out] at hz5
   have y5 := yr.out.below k5
   have r2 := y5.c0
   have r3 := y5.c1
   have r4 := y5.f 0
   have r5 := y5.f 1
   have hzf := hide (zb_zn y5 hz5 s5 a5 l5 c5)
   have kf := hide (((grow_step k5 kr).setCell (p := ⟨r, 0, none⟩) hrb.out (.bool s5)).setCell (p := ⟨r, 1, none⟩) hrb.out (.slice a5 l5 c5))
   have hlf : Hid (l5 ≤ (m + t) * B + 2) := (Nat.le_trans hl5 hfl : l5 ≤ (m + t) * B + 2)
   clear k5 hZL hfl hl5 hval hmul
   go_wp2
   refine bodyPost_ret (results_cell_row rfl _ _ r 24 _ (0, 0) _ rfl (zb_fin y5 s5 a5 l5 c5) Tryz.underlying24 rfl (by kernel_rfl)) rfl ?_
   exact ⟨s5, a5, l5, c5, by simp, hzf.out, hlf.out, kf.out⟩
end Go.Proofs.YtjhhknfnaobmiaaGreatDoor
