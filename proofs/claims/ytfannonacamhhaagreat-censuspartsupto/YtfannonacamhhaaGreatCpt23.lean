/-
 Several texts in one: LCensusFinds, Pg6, Pg7, LCensusParts.
-/
import Derived.Test.YtfannonacamhhaaGreatCpt21
import Derived.Test.YtfannonacamhhaaGreatCpt09
import Derived.Test.YtfannonacamhhaaGreatCpt20
import Derived.Lib.BufferMore
import Derived.Test.YtfannonacamhhaaGreatCpt22
namespace Go.Proofs.YtfannonacamhhaaGreat
open Go.RowKit Go.Sort
namespace Pd

theorem fst_z {v w : World} {b : Nat} {s : Bool} {a : Option Addr} {l c : Nat} (k : Below v.heap.size v w) (hb : v.heap.size ≤ b) (h : ZB w b s a l c) (s' : Bool) (a' : Option Addr) (l' c' : Nat) : ∃ w8, Hid ((w.setCell ⟨b, 0, none⟩ (.bool s')).setCell ⟨b, 1, none⟩ (.slice a' l' c') = w8) ∧ ZB w8 b s' a' l' c' ∧ Below v.heap.size v w8 ∧ (∀ s1 ad len cap z, Zn w s1 ad len cap z → Zn w8 s1 ad len cap z) ∧ ∀ b2 s2 a2 l2 c2, b2 ≠ b → ZB w b2 s2 a2 l2 c2 → ZB w8 b2 s2 a2 l2 c2 :=
 ⟨_, rfl, zb_fin h s' a' l' c', (k.setCell (p := ⟨b, 0, none⟩) hb (.bool s')).setCell (p := ⟨b, 1, none⟩) hb (.slice a' l' c'), fun _ _ _ _ _ hz => zb_zn h hz _ _ _ _, fun _ _ _ _ _ hne hz => hz.only (only2 _ _ _ _) hne⟩
end Pd
end Go.Proofs.YtfannonacamhhaaGreat

namespace Go.Proofs.YtfannonacamhhaaGreat
open Go.RowKit Go.Sort
namespace Pd

theorem zm_store {w w' : World} {r l c : Nat} {s : Bool} {a : Option Addr} (y : ZB w r s a l c) (ho : Only r w w') {s1 : Bool} {a1 : Option Addr} {l1 c1 : Nat} {x : Int} (h : Zm w s1 a1 l1 c1 x) : Zm w' s1 a1 l1 c1 x := by
 obtain ⟨n, hn, rfl⟩ := h
 exact ⟨n, zb_nm y ho hn, rfl⟩
/-- three boxes of numbers, and a set that is younger than they -/
structure P3 (F : Nat) (w : World) (b6 b7 b8 bS : Nat) (D : PD) (za zb zc : ZV) (x y z : Int) : Prop where
 y6 : ZB w b6 za.s za.a za.l za.c
 y7 : ZB w b7 zb.s zb.a zb.l zb.c
 y8 : ZB w b8 zc.s zc.a zc.l zc.c
 ha : Zm w za.s za.a za.l za.c x
 hb : Zm w zb.s zb.a zb.l zb.c y
 hc : Zm w zc.s zc.a zc.l zc.c z
 ll : za.l ≤ 1048576 ∧ zb.l ≤ 1048576 ∧ zc.l ≤ 1048576
 ps : PS w bS D
 yo : Yo F w bS
 ne : b6 ≠ b7 ∧ b6 ≠ b8 ∧ b7 ≠ b8
 lt : b6 < F ∧ b7 < F ∧ b8 < F
theorem P3.below {F : Nat} {w w' : World} {b6 b7 b8 bS : Nat} {D : PD} {za zb zc : ZV} {x y z : Int} (h : P3 F w b6 b7 b8 bS D za zb zc x y z) (k : Below w.heap.size w w') : P3 F w' b6 b7 b8 bS D za zb zc x y z :=
 ⟨h.y6.below k, h.y7.below k, h.y8.below k, h.ha.below k, h.hb.below k, h.hc.below k, h.ll, h.ps.below k, h.yo.below k, h.ne, h.lt⟩
/-- the first two exchanged -/
theorem P3.swap1 {F B : Nat} {v w : World} {b6 b7 b8 bS : Nat} {D : PD} {za zb zc : ZV} {x y z : Int} (h : P3 F w b6 b7 b8 bS D za zb zc x y z) (k : Below B v w) (h6 : B ≤ b6) (h7 : B ≤ b7) :
  ∃ w8, Hid ((w.setCell ⟨b6, 0, none⟩ (.bool zb.s)).setCell ⟨b6, 1, none⟩ (.slice zb.a zb.l zb.c) = w8) ∧ ZB w8 b7 zb.s zb.a zb.l zb.c ∧ ∃ w9, Hid ((w8.setCell ⟨b7, 0, none⟩ (.bool za.s)).setCell ⟨b7, 1, none⟩ (.slice za.a za.l za.c) = w9) ∧ P3 F w9 b6 b7 b8 bS D zb za zc y x z ∧ Below B v w9 := by
 obtain ⟨n1, n2, n3⟩ := h.ne
 obtain ⟨l1, l2, l3⟩ := h.lt
 obtain ⟨w8, e8, u6, k8, o8, -⟩ := est_z k h6 h.y6 zb.s zb.a zb.l zb.c
 have u7 := h.y7.only o8 (Ne.symm n1)
 have u8 := h.y8.only o8 (Ne.symm n2)
 have p8 := ps_store h.ps h.yo h.y6 l1 o8
 obtain ⟨w9, e9, t7, k9, o9, -⟩ := est_z k8 h7 u7 za.s za.a za.l za.c
 have p9 := ps_store p8.1 p8.2 u7 l2 o9
 exact ⟨w8, e8, u7, w9, e9, ⟨u6.only o9 n1, t7, u8.only o9 (Ne.symm n3), zm_store u7 o9 (zm_store h.y6 o8 h.hb), zm_store u7 o9 (zm_store h.y6 o8 h.ha), zm_store u7 o9 (zm_store h.y6 o8 h.hc), ⟨h.ll.2.1, h.ll.1, h.ll.2.2⟩, p9.1, p9.2, h.ne, h.lt⟩, k9⟩
/-- in another order -/
theorem P3.turn {F : Nat} {w : World} {b6 b7 b8 bS : Nat} {D : PD} {za zb zc : ZV} {x y z : Int} (h : P3 F w b6 b7 b8 bS D za zb zc x y z) : P3 F w b7 b8 b6 bS D zb zc za y z x :=
 ⟨h.y7, h.y8, h.y6, h.hb, h.hc, h.ha, ⟨h.ll.2.1, h.ll.2.2, h.ll.1⟩, h.ps, h.yo, ⟨h.ne.2.2, Ne.symm h.ne.1, Ne.symm h.ne.2.1⟩, ⟨h.lt.2.1, h.lt.2.2, h.lt.1⟩⟩
/-- the last two exchanged -/
theorem P3.swap2 {F B : Nat} {v w : World} {b6 b7 b8 bS : Nat} {D : PD} {za zb zc : ZV} {x y z : Int} (h : P3 F w b6 b7 b8 bS D za zb zc x y z) (k : Below B v w) (h7 : B ≤ b7) (h8 : B ≤ b8) :
  ∃ w8, Hid ((w.setCell ⟨b7, 0, none⟩ (.bool zc.s)).setCell ⟨b7, 1, none⟩ (.slice zc.a zc.l zc.c) = w8) ∧ ZB w8 b8 zc.s zc.a zc.l zc.c ∧ ∃ w9, Hid ((w8.setCell ⟨b8, 0, none⟩ (.bool zb.s)).setCell ⟨b8, 1, none⟩ (.slice zb.a zb.l zb.c) = w9) ∧ P3 F w9 b6 b7 b8 bS D za zc zb x z y ∧ Below B v w9 := by
 obtain ⟨w8, e8, u, w9, e9, hp, k9⟩ := h.turn.swap1 k h7 h8
 exact ⟨w8, e8, u, w9, e9, hp.turn.turn, k9⟩
theorem cmpI_gt0 {a b : Int} : 0 < cmpI a b ↔ b < a := by unfold cmpI; split <;> (try split) <;> omega
end Pd
end Go.Proofs.YtfannonacamhhaaGreat

namespace Go.Proofs.YtfannonacamhhaaGreat
open Go.RowKit Go.Sort
namespace Pd

theorem zn_len_pw {w : World} {s : Bool} {a : Option Addr} {l c K : Nat} {z : Int} (h : Zn w s a l c z) (hz : ((z.natAbs : Nat) : Int) < pw K) : l ≤ K := by
 obtain ⟨m, ⟨zs, h1, h2, h3⟩, h4, -⟩ := h
 have hm := (Cn.nm ⟨zs, h1, h2, h3⟩).nonneg
 have e : ((z.natAbs : Nat) : Int) = m := by rw [h4]; cases s <;> simp [sg] <;> omega
 rcases Nat.lt_or_ge K l with hlt | hge
 ·have hl := h1.1
  have h5 := canon_low h2 (by omega)
  have h6 := pw_mono (show K ≤ zs.length - 1 by omega)
  omega
 ·exact hge
theorem zm_pw {w : World} {s : Bool} {a : Option Addr} {l c K : Nat} {z : Int} (h : Zm w s a l c z) (hK : l ≤ K) : ((z.natAbs : Nat) : Int) < pw K := by
 obtain ⟨n, ⟨xs, g1, g2⟩, rfl⟩ := h
 have h1 := vl_bd g1.2.2.2.1 xs.length
 have h2 : vl xs xs.length = n := g2
 have h3 := pw_mono (show xs.length ≤ K by rw [g1.1]; exact hK)
 cases s <;> simp [sg] <;> omega
theorem cntI_le (f : Int → Bool) {a b : Int} (h : a ≤ b) : (cntI f a b : Int) ≤ b - a + 1 := by
 have := cntI_not (f := f) (g := fun x => !f x) (fun _ => rfl) h
 omega
/-- a count is hardly longer than the numbers that it lies between -/
theorem cnt_short {w : World} {s : Bool} {a : Option Addr} {l c K : Nat} {f : Int → Bool} {lo hi : Int} (h : Zn w s a l c (cntI f lo hi : Nat)) (h1 : ((lo.natAbs : Nat) : Int) < pw K) (h2 : ((hi.natAbs : Nat) : Int) < pw K) : l ≤ K + 1 := by
 refine zn_len_pw h ?_
 have hp := pw_pos K
 rw [pw_succ]
 by_cases hle : lo ≤ hi
 ·have := cntI_le f hle
  omega
 ·rw [cntI_none f (by omega)]
  simp
  omega
theorem memI_up (f : Int → Bool) (lo hi : Int) : (memI f lo hi).Pairwise (· < ·) := mems_up _ _ _
theorem memI_mem {f : Int → Bool} {lo hi v : Int} (h : v ∈ memI f lo hi) : f v = true ∧ lo ≤ v ∧ v ≤ hi := by
 obtain ⟨h1, h2, h3⟩ := mems_mem h
 exact ⟨h1, h2, by omega⟩
end Pd
end Go.Proofs.YtfannonacamhhaaGreat

namespace Go.Proofs.YtfannonacamhhaaGreat
open Go.RowKit Go.Sort
namespace Pd

set_option maxRecDepth 100000 in
set_option maxHeartbeats 12800000 in
theorem censusParts_walk {w : World} {la : Option Addr} {ln lc : Nat} {R0 : List MkD} {k : Int} {za zb zc : ZV} {x y z : Int} (hR0 : MLs w la ln R0) (hn : ln ≤ 1048576) (hk : Iw k) (ha : Zm w za.s za.a za.l za.c x) (hal : za.l ≤ 1048576) (hb : Zm w zb.s zb.a zb.l zb.c y) (hbl : zb.l ≤ 1048576) (hc : Zm w zc.s zc.a zc.l zc.c z) (hcl : zc.l ≤ 1048576) :
  Calls Tryz.prog 5 #[.slice la ln lc, .agg #[.int .i64 k, .bool za.s, .slice za.a za.l za.c, .bool zb.s, .slice zb.a zb.l zb.c, .bool zc.s, .slice zc.a zc.l zc.c]] w fun e w' => e = .returned (.bool true) ∧ Below w.heap.size w w' := by
 have b0 := below_alloc w (.cells #[.int .i64 k, .bool za.s, .slice za.a za.l za.c, .bool zb.s, .slice zb.a zb.l zb.c, .bool zc.s, .slice zc.a zc.l zc.c] 49)
 have y0 := heap_alloc_new w (.cells #[.int .i64 k, .bool za.s, .slice za.a za.l za.c, .bool zb.s, .slice zb.a zb.l zb.c, .bool zc.s, .slice zc.a zc.l zc.c] 49)
 obtain ⟨k0, k1⟩ := hk
 replace hR0 := hide (hR0.below b0)
 replace ha := hide (ha.below b0)
 replace hb := hide (hb.below b0)
 replace hc := hide (hc.below b0)
 have q0 := cell_of_row _ _ 0 _ _ (0, 0) y0
 have q1 := cell_of_row _ _ 1 _ _ (0, 0) y0
 have q2 := cell_of_row _ _ 2 _ _ (0, 0) y0
 have q3 := cell_of_row _ _ 3 _ _ (0, 0) y0
 have q4 := cell_of_row _ _ 4 _ _ (0, 0) y0
 have q5 := cell_of_row _ _ 5 _ _ (0, 0) y0
 have q6 := cell_of_row _ _ 6 _ _ (0, 0) y0
 have hbt : w.heap.size < (w.alloc (.cells #[.int .i64 k, .bool za.s, .slice za.a za.l za.c, .bool zb.s, .slice zb.a zb.l zb.c, .bool zc.s, .slice zc.a zc.l zc.c] 49)).heap.size := by simp
 replace b0 := hide b0
 clear y0
 go_enter Tryz.func5, Tryz.ntmps5
 go_upto_region 1 with (fail)
 generalize w.alloc (.cells #[.int .i64 k, .bool za.s, .slice za.a za.l za.c, .bool zb.s, .slice zb.a zb.l zb.c, .bool zc.s, .slice zc.a zc.l zc.c] 49) = w0 at *
 obtain ⟨bt, hbw⟩ : ∃ bt, w.heap.size = bt := ⟨_, rfl⟩
 rw [hbw] at q0 q1 q2 q3 q4 q5 q6 hbt ⊢
 replace hbw := hide hbw
 go_cut [5, 6, 7, 8] (fun v5 v6 v7 v8 wc => ∃ (b6 b7 b8 : Nat), v5 = .int .i64 k ∧ v6 = .pointer (some ⟨b6, 0, none⟩) ∧ v7 = .pointer (some ⟨b7, 0, none⟩) ∧ v8 = .pointer (some ⟨b8, 0, none⟩) ∧ Hid (ZB wc b6 za.s za.a za.l za.c) ∧ Hid (ZB wc b7 zb.s zb.a zb.l zb.c) ∧ Hid (ZB wc b8 zc.s zc.a zc.l zc.c) ∧ (b6 ≠ b7 ∧ b6 ≠ b8 ∧ b7 ≠ b8) ∧ (w0.heap.size ≤ b6 ∧ w0.heap.size ≤ b7 ∧ w0.heap.size ≤ b8) ∧ Hid (Below w0.heap.size w0 wc))
 case first => as_aux_lemma =>
  refine wp_region_held_drew (S := (fun w' => w'.cell? ⟨bt, 0, none⟩ = some (.int .i64 k) ∧ w'.cell? ⟨bt, 1, none⟩ = some (.bool za.s) ∧ w'.cell? ⟨bt, 2, none⟩ = some (.slice za.a za.l za.c) ∧ w'.cell? ⟨bt, 3, none⟩ = some (.bool zb.s) ∧ w'.cell? ⟨bt, 4, none⟩ = some (.slice zb.a zb.l zb.c) ∧ w'.cell? ⟨bt, 5, none⟩ = some (.bool zc.s) ∧ w'.cell? ⟨bt, 6, none⟩ = some (.slice zc.a zc.l zc.c))) (by kernel_rfl) (⟨(Below.cell (p := ⟨bt, 0, none⟩) (grow_drew (Below.refl _ _)) hbt).trans q0, (Below.cell (p := ⟨bt, 1, none⟩) (grow_drew (Below.refl _ _)) hbt).trans q1, (Below.cell (p := ⟨bt, 2, none⟩) (grow_drew (Below.refl _ _)) hbt).trans q2, (Below.cell (p := ⟨bt, 3, none⟩) (grow_drew (Below.refl _ _)) hbt).trans q3, (Below.cell (p := ⟨bt, 4, none⟩) (grow_drew (Below.refl _ _)) hbt).trans q4, (Below.cell (p := ⟨bt, 5, none⟩) (grow_drew (Below.refl _ _)) hbt).trans q5, (Below.cell (p := ⟨bt, 6, none⟩) (grow_drew (Below.refl _ _)) hbt).trans q6⟩) (fun hHeld => ?_)
  show wpAnyH _ _ _ _ _ 15 _ _ _
  have kW := grow_drew (Below.refl w0.heap.size w0)
  generalize w0.drew = wQ at *
  repeat' first
   | with_reducible exact AllReadyH.nil
   | (
    refine wpAnyH_take (i := 0) (oi := ⟨some 22, _, _, _, _, _⟩) (v := ?_) rfl (by decide +kernel) (by decide +kernel) (by decide +kernel) (fun _ _ _ h => h) (Or.inl ⟨by rfl, ?_⟩) (by assumption) ?_
    rotate_left
    ·intro wq hSw; (try dsimp only at hSw); go_simp; (try with_reducible rfl)
    (try simp only [Act.put, List.setIfInBounds_toArray, List.set_cons_zero, List.set_cons_succ]))
   | (
    refine wpAnyH_take (i := 1) (oi := ⟨some 23, _, _, _, _, _⟩) (v := ?_) rfl (by decide +kernel) (by decide +kernel) (by decide +kernel) (fun _ _ _ h => h) (Or.inl ⟨by rfl, ?_⟩) (by assumption) ?_
    rotate_left
    ·intro wq hSw; (try dsimp only at hSw); go_simp; (try with_reducible rfl)
    (try simp only [Act.put, List.setIfInBounds_toArray, List.set_cons_zero, List.set_cons_succ]))
   | (
    refine wpAnyH_take (i := 2) (oi := ⟨some 24, _, _, _, _, _⟩) (v := ?_) rfl (by decide +kernel) (by decide +kernel) (by decide +kernel) (fun _ _ _ h => h) (Or.inl ⟨by rfl, ?_⟩) (by assumption) ?_
    rotate_left
    ·intro wq hSw; (try dsimp only at hSw); go_simp; (try with_reducible rfl)
    (try simp only [Act.put, List.setIfInBounds_toArray, List.set_cons_zero, List.set_cons_succ]))
   | (
    refine wpAnyH_take (i := 3) (oi := ⟨some 25, _, _, _, _, _⟩) (v := ?_) rfl (by decide +kernel) (by decide +kernel) (by decide +kernel) (fun _ _ _ h => h) (Or.inl ⟨by rfl, ?_⟩) (by assumption) ?_
    rotate_left
    ·intro wq hSw; (try dsimp only at hSw); go_simp; (try with_reducible rfl)
    (try simp only [Act.put, List.setIfInBounds_toArray, List.set_cons_zero, List.set_cons_succ]))
   | (
    refine wpAnyH_take (i := 4) (oi := ⟨some 26, _, _, _, _, _⟩) (v := ?_) rfl (by decide +kernel) (by decide +kernel) (by decide +kernel) (fun _ _ _ h => h) (Or.inl ⟨by rfl, ?_⟩) (by assumption) ?_
    rotate_left
    ·intro wq hSw; (try dsimp only at hSw); go_simp; (try with_reducible rfl)
    (try simp only [Act.put, List.setIfInBounds_toArray, List.set_cons_zero, List.set_cons_succ]))
   | (
    refine wpAnyH_take (i := 5) (oi := ⟨some 27, _, _, _, _, _⟩) (v := ?_) rfl (by decide +kernel) (by decide +kernel) (by decide +kernel) (fun _ _ _ h => h) (Or.inl ⟨by rfl, ?_⟩) (by assumption) ?_
    rotate_left
    ·intro wq hSw; (try dsimp only at hSw); go_simp; (try with_reducible rfl)
    (try simp only [Act.put, List.setIfInBounds_toArray, List.set_cons_zero, List.set_cons_succ]))
   | (
    refine wpAnyH_take (i := 6) (oi := ⟨some 28, _, _, _, _, _⟩) (v := ?_) rfl (by decide +kernel) (by decide +kernel) (by decide +kernel) (fun _ _ _ h => h) (Or.inl ⟨by rfl, ?_⟩) (by assumption) ?_
    rotate_left
    ·intro wq hSw; (try dsimp only at hSw); go_simp; (try with_reducible rfl)
    (try simp only [Act.put, List.setIfInBounds_toArray, List.set_cons_zero, List.set_cons_succ]))
   | (
    refine wpAnyH_take (i := 7) (oi := ⟨some 29, _, _, _, _, _⟩) (v := ?_) rfl (by decide +kernel) (by decide +kernel) (by decide +kernel) (fun _ _ _ h => h) (Or.inl ⟨by rfl, ?_⟩) (by assumption) ?_
    rotate_left
    ·intro wq hSw; (try dsimp only at hSw); go_simp; (try with_reducible rfl)
    (try simp only [Act.put, List.setIfInBounds_toArray, List.set_cons_zero, List.set_cons_succ]))
   | (
    refine wpAnyH_take (i := 11) (oi := ⟨some 5, _, _, _, _, _⟩) (v := ?_) rfl (by decide +kernel) (by decide +kernel) (by decide +kernel) (fun _ _ _ h => h) (Or.inl ⟨by rfl, ?_⟩) (by assumption) ?_
    rotate_left
    ·intro wq hSw; (try dsimp only at hSw); go_simp; (try with_reducible rfl)
    (try simp only [Act.put, List.setIfInBounds_toArray, List.set_cons_zero, List.set_cons_succ]))
   | (refine wpAnyH_ready (rs := [8, 9, 10]) ?_ ?_ ?_; decide +kernel; simp)
   | (refine wpAnyH_ready (rs := [9, 10]) ?_ ?_ ?_; decide +kernel; simp)
   | (refine wpAnyH_ready (rs := [10]) ?_ ?_ ?_; decide +kernel; simp)
   | (refine wpAnyH_ready (rs := [12]) ?_ ?_ ?_; decide +kernel; simp)
   | (refine wpAnyH_ready (rs := [13]) ?_ ?_ ?_; decide +kernel; simp)
   | (refine wpAnyH_ready (rs := [14]) ?_ ?_ ?_; decide +kernel; simp)
   | (refine wpAnyH_ready (rs := [9]) ?_ ?_ ?_; decide +kernel; simp)
   | (refine wpAnyH_ready (rs := [8, 10]) ?_ ?_ ?_; decide +kernel; simp)
   | (refine wpAnyH_ready (rs := [8]) ?_ ?_ ?_; decide +kernel; simp)
   | (refine wpAnyH_ready (rs := [8, 9]) ?_ ?_ ?_; decide +kernel; simp)
   | (
    first
     | (
      refine AllReadyH.cons (i := 8) (o := ⟨some 6, _, _, _, _, _⟩) rfl (fun K hK => ?_) ?_
      obtain ⟨wL, b6, eL, eb6, z6, hb6, kL, kW⟩ := al_b kW (.cells #[.bool false, .slice none 0 0] 38)
      try have n67 : b6 ≠ b7 := by have := z7.lt; have := eb6.out; omega
      try have n68 : b6 ≠ b8 := by have := z8.lt; have := eb6.out; omega
      replace z6 : ZB wL b6 false none 0 0 := z6
      try have z7 := z7.below kL
      try have z8 := z8.below kL
      go_simp
      rw [eL.out]
      (try simp only [eb6.out]))
     | (
      refine AllReadyH.cons (i := 9) (o := ⟨some 7, _, _, _, _, _⟩) rfl (fun K hK => ?_) ?_
      obtain ⟨wL, b7, eL, eb7, z7, hb7, kL, kW⟩ := al_b kW (.cells #[.bool false, .slice none 0 0] 38)
      try have n67 : b6 ≠ b7 := by have := z6.lt; have := eb7.out; omega
      try have n78 : b7 ≠ b8 := by have := z8.lt; have := eb7.out; omega
      replace z7 : ZB wL b7 false none 0 0 := z7
      try have z6 := z6.below kL
      try have z8 := z8.below kL
      go_simp
      rw [eL.out]
      (try simp only [eb7.out]))
     | (
      refine AllReadyH.cons (i := 10) (o := ⟨some 8, _, _, _, _, _⟩) rfl (fun K hK => ?_) ?_
      obtain ⟨wL, b8, eL, eb8, z8, hb8, kL, kW⟩ := al_b kW (.cells #[.bool false, .slice none 0 0] 38)
      try have n68 : b6 ≠ b8 := by have := z6.lt; have := eb8.out; omega
      try have n78 : b7 ≠ b8 := by have := z7.lt; have := eb8.out; omega
      replace z8 : ZB wL b8 false none 0 0 := z8
      try have z6 := z6.below kL
      try have z7 := z7.below kL
      go_simp
      rw [eL.out]
      (try simp only [eb8.out]))
     | (
      refine AllReadyH.cons (i := 12) (o := ⟨none, _, _, _, _, _⟩) rfl (fun K hK => ?_) ?_
      have f0 := z6.c0
      have f1 := z6.c1
      have f2 := z6.f 0
      have f3 := z6.f 1
      obtain ⟨w8x, e8, z6, kZ, hzn, hzb⟩ := fst_z kW hb6 z6 za.s za.a za.l za.c
      have z7 := hzb _ _ _ _ _ n67.symm z7
      have z8 := hzb _ _ _ _ _ n68.symm z8
      go_simp
      rw [e8.out]
      clear f0 f1 f2 f3 hzn hzb
      have kW := kZ)
     | (
      refine AllReadyH.cons (i := 13) (o := ⟨none, _, _, _, _, _⟩) rfl (fun K hK => ?_) ?_
      have f0 := z7.c0
      have f1 := z7.c1
      have f2 := z7.f 0
      have f3 := z7.f 1
      obtain ⟨w8x, e8, z7, kZ, hzn, hzb⟩ := fst_z kW hb7 z7 zb.s zb.a zb.l zb.c
      have z6 := hzb _ _ _ _ _ n67 z6
      have z8 := hzb _ _ _ _ _ n78.symm z8
      go_simp
      rw [e8.out]
      clear f0 f1 f2 f3 hzn hzb
      have kW := kZ)
     | (
      refine AllReadyH.cons (i := 14) (o := ⟨none, _, _, _, _, _⟩) rfl (fun K hK => ?_) ?_
      have f0 := z8.c0
      have f1 := z8.c1
      have f2 := z8.f 0
      have f3 := z8.f 1
      obtain ⟨w8x, e8, z8, kZ, hzn, hzb⟩ := fst_z kW hb8 z8 zc.s zc.a zc.l zc.c
      have z6 := hzb _ _ _ _ _ n68 z6
      have z7 := hzb _ _ _ _ _ n78 z7
      go_simp
      rw [e8.out]
      clear f0 f1 f2 f3 hzn hzb
      have kW := kZ)
    refine hK.out _ _ ?_ ?_
    ·first | with_reducible exact trivial | ((try dsimp only); exact ⟨(Below.cell (p := ⟨bt, 0, none⟩) kW hbt).trans q0, (Below.cell (p := ⟨bt, 1, none⟩) kW hbt).trans q1, (Below.cell (p := ⟨bt, 2, none⟩) kW hbt).trans q2, (Below.cell (p := ⟨bt, 3, none⟩) kW hbt).trans q3, (Below.cell (p := ⟨bt, 4, none⟩) kW hbt).trans q4, (Below.cell (p := ⟨bt, 5, none⟩) kW hbt).trans q5, (Below.cell (p := ⟨bt, 6, none⟩) kW hbt).trans q6⟩)
    clear hK K hHeld; intro hHeld
    (try simp only [Act.put, List.setIfInBounds_toArray, List.set_cons_zero, List.set_cons_succ]))
  all_goals
   refine wpAnyH_done ?_ ?_ _
   ·decide +kernel
   have y1 := hide z6
   have y2 := hide z7
   have y3 := hide z8
   have y4 := hide kW
   clear kW hHeld z6 z7 z8
   go_wp2_with fail
   go_meet
   case rel => exact ⟨b6, b7, b8, rfl, rfl, rfl, rfl, y1, y2, y3, ⟨n67, n68, n78⟩, ⟨hb6, hb7, hb8⟩, y4⟩
 case rest =>
 obtain ⟨b6, b7, b8, rfl, rfl, rfl, rfl, y6, y7, y8, hnn, hge0, kw⟩ := hcut
 generalize wc = w1 at *
 have hge : w.heap.size ≤ b6 ∧ w.heap.size ≤ b7 ∧ w.heap.size ≤ b8 := by have := hbw.out; omega
 have hset := hide (sets19_y (lc := lc) (hR0.out.below kw.out) hn)
 have hlt := And.intro y6.out.lt (And.intro y7.out.lt y8.out.lt)
 replace ha := hide (ha.out.below kw.out)
 replace hb := hide (hb.out.below kw.out)
 replace hc := hide (hc.out.below kw.out)
 replace kw : Hid (Below w.heap.size w w1) := hide (grow_step kw.out b0.out)
 obtain ⟨F, hF⟩ : ∃ F, w1.heap.size = F := ⟨_, rfl⟩
 clear hR0 b0 q0 q1 q2 q3 q4 q5 q6 hbt hge0
 go_wp2_with fail
 refine hset.out.mono ?_
 rintro e w2 ⟨sa, sn, sc, Ds, rfl, hsa, hsl, hs1, hs2, hcs, -, kN⟩
 rw [hF] at hsl hlt
 obtain ⟨ba, hbal, rfl, -⟩ := hsl.get (i := 0) hs1 (by have := hsl.1; omega)
 have hkn := hide (known19_n w2)
 have hnil : ∀ W : World, (binOp .eql 27 (.slice (some ⟨ba, 0, none⟩) sn sc) (.slice none 0 0)).run Tryz.prog W = .ok (.bool false) W := fun W => Go.Lib.run_eql_slice_some_nil W _ _ _ Tryz.underlying27
 replace ha := hide (ha.out.below kN)
 replace hb := hide (hb.out.below kN)
 replace hc := hide (hc.out.below kN)
 replace y6 := hide (y6.out.below kN)
 replace y7 := hide (y7.out.below kN)
 replace y8 := hide (y8.out.below kN)
 replace kw := hide (grow_step kN kw.out)
 clear hsa hset kN hF
 replace hsl := hide hsl
 replace hcs := hide hcs
 go_wp2_with fail
 refine hkn.out.mono ?_
 rintro e w3 ⟨rfl, kN⟩
 replace ha := hide (ha.out.below kN)
 replace hb := hide (hb.out.below kN)
 replace hc := hide (hc.out.below kN)
 replace y6 := hide (y6.out.below kN)
 replace y7 := hide (y7.out.below kN)
 replace y8 := hide (y8.out.below kN)
 replace kw := hide (grow_step kN kw.out)
 have hs := hsl.out.below kN
 have hl := hs.1
 have hji := pkN_lt (c := k) (n := (sn : Int)) (by omega)
 have hci := hide (pick19_n k sn k0 k1 (by omega) (by omega) w3)
 obtain ⟨xi, hxi⟩ : ∃ xi, pkN k (sn : Int) = xi := ⟨_, rfl⟩
 rw [hxi] at hji hci
 obtain ⟨_, bS, e1, hba, dA, pD, yD⟩ := hs.get (i := xi) (by omega) (by omega)
 cases e1
 have hcD := hcs.out _ (List.getElem_mem (show xi < Ds.length by omega))
 generalize Ds[xi]'(by omega) = D at *
 have hP : Hid (P3 F w3 b6 b7 b8 bS D za zb zc x y z) := hide ⟨y6.out, y7.out, y8.out, ha.out, hb.out, hc.out, ⟨hal, hbl, hcl⟩, pD, yD, hnn, hlt⟩
 clear hkn hsl kN hs hl hcs hxi ha hb hc y6 y7 y8 pD yD hnn hlt hal hbl hcl
 go_wp2_with fail
 refine hci.out.mono ?_
 rintro e w4 ⟨rfl, kN⟩
 have gA := (kN.cell (p := ⟨ba, xi, none⟩) hba).trans dA
 replace hP := hide (hP.out.below kN)
 replace kw := hide (grow_step kN kw.out)
 clear hci dA hba kN hnil k0 k1 hs1 hs2
 obtain ⟨cv, hcv⟩ : ∃ cv, cmpI x y = cv := ⟨_, rfl⟩
 have hgt := cmpI_gt0 (a := x) (b := y)
 have hcp := hide (rcmp2_n hP.out.ha hP.out.hb (by have := hP.out.ll; omega) (by have := hP.out.ll; omega))
 rw [hcv] at hcp hgt
 clear hcv
 have c0 := hP.out.y6.c0
 have c1 := hP.out.y6.c1
 have c2 := hP.out.y7.c0
 have c3 := hP.out.y7.c1
 go_wp2_with fail
 refine hcp.out.mono ?_
 rintro e w5 ⟨rfl, kN⟩
 replace hP := hide (hP.out.below kN)
 replace kw := hide (grow_step kN kw.out)
 clear hcp kN gA c0 c1 c2 c3
 go_upto_if 48 with (fail)
 go_cut [] (fun wc => ∃ (za1 zb1 : ZV) (x1 y1 : Int), Hid (P3 F wc b6 b7 b8 bS D za1 zb1 zc x1 y1 z) ∧ x1 ≤ y1 ∧ Hid (Below w.heap.size w wc))
 case first => as_aux_lemma =>
  by_cases h : y < x
  ·have hd : decide (0 < cv) = true := by rw [decide_eq_true_iff]; exact hgt.2 h
   obtain ⟨w8, e8, -, w9, e9, hP9, k9⟩ := hP.out.swap1 kw.out hge.1 hge.2.1
   have nn1 : b6 ≠ b7 := hP.out.ne.1
   have nn2 : b7 ≠ b6 := nn1.symm
   have c0 := hP.out.y6.c0
   have c1 := hP.out.y6.c1
   have c2 := hP.out.y7.c0
   have c3 := hP.out.y7.c1
   have f0 := hP.out.y6.f 0
   have f1 := hP.out.y6.f 1
   have f2 := hP.out.y7.f 0
   have f3 := hP.out.y7.f 1
   replace hP9 := hide hP9
   replace k9 := hide k9
   clear hgt
   go_wp2_with fail
   rw [e8.out, e9.out]
   go_meet
   case rel => exact ⟨zb, za, y, x, hP9, by omega, k9⟩
  ·have hd : decide (0 < cv) = false := by rw [decide_eq_false_iff_not]; exact fun g => h (hgt.1 g)
   clear hgt
   go_wp2_with fail
   go_meet
   case rel => exact ⟨za, zb, x, y, hP, by omega, kw⟩
 case rest =>
 obtain ⟨za1, zb1, x1, y1, hP, hxy, kw⟩ := hcut
 generalize wc = w6 at *
 obtain ⟨cv, hcv⟩ : ∃ cv, cmpI y1 z = cv := ⟨_, rfl⟩
 have hgt := cmpI_gt0 (a := y1) (b := z)
 have hcp := hide (rcmp2_n hP.out.hb hP.out.hc (by have := hP.out.ll; omega) (by have := hP.out.ll; omega))
 rw [hcv] at hcp hgt
 clear hcv
 have c0 := hP.out.y7.c0
 have c1 := hP.out.y7.c1
 have c2 := hP.out.y8.c0
 have c3 := hP.out.y8.c1
 go_wp2_with fail
 refine hcp.out.mono ?_
 rintro e w7 ⟨rfl, kN⟩
 replace hP := hide (hP.out.below kN)
 replace kw := hide (grow_step kN kw.out)
 clear hcp kN c0 c1 c2 c3
 go_upto_if 54 with (fail)
 go_cut [] (fun wc => ∃ (zb2 zc2 : ZV) (y2 z2 : Int), Hid (P3 F wc b6 b7 b8 bS D za1 zb2 zc2 x1 y2 z2) ∧ (y2 ≤ z2 ∧ x1 ≤ z2) ∧ Hid (Below w.heap.size w wc))
 case first => as_aux_lemma =>
  by_cases h : z < y1
  ·have hd : decide (0 < cv) = true := by rw [decide_eq_true_iff]; exact hgt.2 h
   obtain ⟨w8, e8, -, w9, e9, hP9, k9⟩ := hP.out.swap2 kw.out hge.2.1 hge.2.2
   have nn1 : b7 ≠ b8 := hP.out.ne.2.2
   have nn2 : b8 ≠ b7 := nn1.symm
   have c0 := hP.out.y7.c0
   have c1 := hP.out.y7.c1
   have c2 := hP.out.y8.c0
   have c3 := hP.out.y8.c1
   have f0 := hP.out.y7.f 0
   have f1 := hP.out.y7.f 1
   have f2 := hP.out.y8.f 0
   have f3 := hP.out.y8.f 1
   replace hP9 := hide hP9
   replace k9 := hide k9
   clear hgt
   go_wp2_with fail
   rw [e8.out, e9.out]
   go_meet
   case rel => exact ⟨zc, zb1, z, y1, hP9, by omega, k9⟩
  ·have hd : decide (0 < cv) = false := by rw [decide_eq_false_iff_not]; exact fun g => h (hgt.1 g)
   clear hgt
   go_wp2_with fail
   go_meet
   case rel => exact ⟨zb1, zc, y1, z, hP, by omega, kw⟩
 case rest =>
 obtain ⟨zb2, zc2, y2, z2, hP, hyz, kw⟩ := hcut
 generalize wc = w8 at *
 obtain ⟨cv, hcv⟩ : ∃ cv, cmpI x1 y2 = cv := ⟨_, rfl⟩
 have hgt := cmpI_gt0 (a := x1) (b := y2)
 have hcp := hide (rcmp2_n hP.out.ha hP.out.hb (by have := hP.out.ll; omega) (by have := hP.out.ll; omega))
 rw [hcv] at hcp hgt
 clear hcv
 have c0 := hP.out.y6.c0
 have c1 := hP.out.y6.c1
 have c2 := hP.out.y7.c0
 have c3 := hP.out.y7.c1
 go_wp2_with fail
 refine hcp.out.mono ?_
 rintro e w9 ⟨rfl, kN⟩
 replace hP := hide (hP.out.below kN)
 replace kw := hide (grow_step kN kw.out)
 clear hcp kN c0 c1 c2 c3
 go_upto_if 60 with (fail)
 go_cut [] (fun wc => ∃ (za3 zb3 : ZV) (x3 y3 : Int), Hid (P3 F wc b6 b7 b8 bS D za3 zb3 zc2 x3 y3 z2) ∧ (x3 ≤ y3 ∧ y3 ≤ z2) ∧ Hid (Below w.heap.size w wc))
 case first => as_aux_lemma =>
  by_cases h : y2 < x1
  ·have hd : decide (0 < cv) = true := by rw [decide_eq_true_iff]; exact hgt.2 h
   obtain ⟨w8, e8, -, w9, e9, hP9, k9⟩ := hP.out.swap1 kw.out hge.1 hge.2.1
   have nn1 : b6 ≠ b7 := hP.out.ne.1
   have nn2 : b7 ≠ b6 := nn1.symm
   have c0 := hP.out.y6.c0
   have c1 := hP.out.y6.c1
   have c2 := hP.out.y7.c0
   have c3 := hP.out.y7.c1
   have f0 := hP.out.y6.f 0
   have f1 := hP.out.y6.f 1
   have f2 := hP.out.y7.f 0
   have f3 := hP.out.y7.f 1
   replace hP9 := hide hP9
   replace k9 := hide k9
   clear hgt
   go_wp2_with fail
   rw [e8.out, e9.out]
   go_meet
   case rel => exact ⟨zb2, za1, y2, x1, hP9, by omega, k9⟩
  ·have hd : decide (0 < cv) = false := by rw [decide_eq_false_iff_not]; exact fun g => h (hgt.1 g)
   clear hgt
   go_wp2_with fail
   go_meet
   case rel => exact ⟨za1, zb2, x1, y2, hP, by omega, kw⟩
 case rest =>
 obtain ⟨za3, zb3, x3, y3, hP, hyz, kw⟩ := hcut
 generalize wc = wA at *
 have hKx := hide (zm_pw (K := 1048577) hP.out.ha (by have := hP.out.ll; omega))
 have hKy := hide (zm_pw (K := 1048577) hP.out.hb (by have := hP.out.ll; omega))
 have hKz := hide (zm_pw (K := 1048577) hP.out.hc (by have := hP.out.ll; omega))
 have hKy1 : Hid ((((y3 + 1).natAbs : Nat) : Int) < pw 1048577) := hide (by
  have h1 := zm_pw (K := 1048576) hP.out.hb hP.out.ll.2.1
  have h2 := pw_pos 1048576
  rw [show (1048577 : Nat) = 1048576 + 1 from rfl, pw_succ]
  generalize pw 1048576 = q at *
  omega)
 have hnum := fun u : World => hide (num_n 1 (by decide) (by decide) u)
 go_wp2_with fail
 refine (hnum _).out.mono ?_
 rintro e wB ⟨u1, rfl, hu1, kN, hul⟩
 have kA := grow_step (below_alloc wB (.cells #[.bool u1.s, .slice u1.a u1.l u1.c] 38)) kN
 have y11 := hide (zb_new wB u1.s u1.a u1.l u1.c)
 replace hu1 := hide (hu1.below (below_alloc wB (.cells #[.bool u1.s, .slice u1.a u1.l u1.c] 38)))
 replace hP := hide (hP.out.below kA)
 replace kw := hide (grow_step kA kw.out)
 clear hnum kA kN
 go_upto_region 13 with (fail)
 generalize wB.alloc (.cells #[.bool u1.s, .slice u1.a u1.l u1.c] 38) = wC at *
 obtain ⟨b11, hb11⟩ : ∃ c, wB.heap.size = c := ⟨_, rfl⟩
 rw [hb11] at y11 ⊢
 clear hb11
 have hco := hide (Count_n hP.out.ps (by first | omega | (rw [cR]; omega)) hP.out.ha (by have := hP.out.ll; omega) hP.out.hb (by have := hP.out.ll; omega))
 have c0 := hP.out.y6.c0
 have c1 := hP.out.y6.c1
 have c2 := hP.out.y7.c0
 have c3 := hP.out.y7.c1
 go_wp2_with fail
 refine hco.out.mono ?_
 rintro e wD ⟨zk1, rfl, hk1, -, kN⟩
 have hk1l := cnt_short hk1 hKx.out hKy.out
 have kA := grow_step (below_alloc wD (.cells #[.bool zk1.s, .slice zk1.a zk1.l zk1.c] 38)) kN
 have y12 := hide (zb_new wD zk1.s zk1.a zk1.l zk1.c)
 replace hk1 := hide (hk1.below (below_alloc wD (.cells #[.bool zk1.s, .slice zk1.a zk1.l zk1.c] 38)))
 replace hP := hide (hP.out.below kA)
 replace hu1 := hide (hu1.out.below kA)
 replace y11 := hide (y11.out.below kA)
 replace kw := hide (grow_step kA kw.out)
 clear hco kA kN c0 c1 c2 c3
 go_upto_region 14 with (fail)
 generalize wD.alloc (.cells #[.bool zk1.s, .slice zk1.a zk1.l zk1.c] 38) = wE at *
 obtain ⟨b12, hb12⟩ : ∃ c, wD.heap.size = c := ⟨_, rfl⟩
 rw [hb12] at y12 ⊢
 clear hb12
 go_cut [14, 15] (fun v14 v15 wc => ∃ (b14 : Nat) (zk2 : ZV), v14 = .pointer (some ⟨b14, 0, none⟩) ∧ v15 = .int .i64 0 ∧ Hid (ZB wc b14 zk2.s zk2.a zk2.l zk2.c) ∧ Hid (Zn wc zk2.s zk2.a zk2.l zk2.c (cntI (mem D) (y3 + 1) z2 : Nat)) ∧ zk2.l ≤ 1048577 + 1 ∧ Hid (Below wE.heap.size wE wc))
 case first => as_aux_lemma =>
  refine wp_region_held_drew (S := (fun w' => (w'.cell? ⟨b7, 0, none⟩ = some (.bool zb3.s) ∧ w'.cell? ⟨b7, 1, none⟩ = some (.slice zb3.a zb3.l zb3.c)) ∧ (w'.cell? ⟨b11, 0, none⟩ = some (.bool u1.s) ∧ w'.cell? ⟨b11, 1, none⟩ = some (.slice u1.a u1.l u1.c)) ∧ (w'.cell? ⟨b8, 0, none⟩ = some (.bool zc2.s) ∧ w'.cell? ⟨b8, 1, none⟩ = some (.slice zc2.a zc2.l zc2.c)))) (by kernel_rfl) (⟨⟨(hP.out.y7.below (grow_drew (Below.refl _ _))).c0, (hP.out.y7.below (grow_drew (Below.refl _ _))).c1⟩, ⟨(y11.out.below (grow_drew (Below.refl _ _))).c0, (y11.out.below (grow_drew (Below.refl _ _))).c1⟩, ⟨(hP.out.y8.below (grow_drew (Below.refl _ _))).c0, (hP.out.y8.below (grow_drew (Below.refl _ _))).c1⟩⟩) (fun hHeld => ?_)
  show wpAnyH _ _ _ _ _ 12 _ _ _
  have kW := grow_drew (Below.refl wE.heap.size wE)
  generalize wE.drew = wQ at *
  repeat' first
   | with_reducible exact AllReadyH.nil
   | (
    refine wpAnyH_take (i := 0) (oi := ⟨some 72, _, _, _, _, _⟩) (v := ?_) rfl (by decide +kernel) (by decide +kernel) (by decide +kernel) (fun _ _ _ h => h) (Or.inl ⟨by rfl, ?_⟩) (by assumption) ?_
    rotate_left
    ·intro wq hSw; (try dsimp only at hSw); go_simp; (try with_reducible rfl)
    (try simp only [Act.put, List.setIfInBounds_toArray, List.set_cons_zero, List.set_cons_succ]))
   | (
    refine wpAnyH_take (i := 1) (oi := ⟨some 73, _, _, _, _, _⟩) (v := ?_) rfl (by decide +kernel) (by decide +kernel) (by decide +kernel) (fun _ _ _ h => h) (Or.inl ⟨by rfl, ?_⟩) (by assumption) ?_
    rotate_left
    ·intro wq hSw; (try dsimp only at hSw); go_simp; (try with_reducible rfl)
    (try simp only [Act.put, List.setIfInBounds_toArray, List.set_cons_zero, List.set_cons_succ]))
   | (
    refine wpAnyH_take (i := 2) (oi := ⟨some 74, _, _, _, _, _⟩) (v := ?_) rfl (by decide +kernel) (by decide +kernel) (by decide +kernel) (fun _ _ _ h => h) (Or.inl ⟨by rfl, ?_⟩) (by assumption) ?_
    rotate_left
    ·intro wq hSw; (try dsimp only at hSw); go_simp; (try with_reducible rfl)
    (try simp only [Act.put, List.setIfInBounds_toArray, List.set_cons_zero, List.set_cons_succ]))
   | (
    refine wpAnyH_take (i := 4) (oi := ⟨some 76, _, _, _, _, _⟩) (v := ?_) rfl (by decide +kernel) (by decide +kernel) (by decide +kernel) (fun _ _ _ h => h) (Or.inl ⟨by rfl, ?_⟩) (by assumption) ?_
    rotate_left
    ·intro wq hSw; (try dsimp only at hSw); go_simp; (try with_reducible rfl)
    (try simp only [Act.put, List.setIfInBounds_toArray, List.set_cons_zero, List.set_cons_succ]))
   | (
    refine wpAnyH_take (i := 6) (oi := ⟨some 71, _, _, _, _, _⟩) (v := ?_) rfl (by decide +kernel) (by decide +kernel) (by decide +kernel) (fun _ _ _ h => h) (Or.inl ⟨by rfl, ?_⟩) (by assumption) ?_
    rotate_left
    ·intro wq hSw; (try dsimp only at hSw); go_simp; (try with_reducible rfl)
    (try simp only [Act.put, List.setIfInBounds_toArray, List.set_cons_zero, List.set_cons_succ]))
   | (
    refine wpAnyH_take (i := 7) (oi := ⟨some 78, _, _, _, _, _⟩) (v := ?_) rfl (by decide +kernel) (by decide +kernel) (by decide +kernel) (fun _ _ _ h => h) (Or.inl ⟨by rfl, ?_⟩) (by assumption) ?_
    rotate_left
    ·intro wq hSw; (try dsimp only at hSw); go_simp; (try with_reducible rfl)
    (try simp only [Act.put, List.setIfInBounds_toArray, List.set_cons_zero, List.set_cons_succ]))
   | (
    refine wpAnyH_take (i := 8) (oi := ⟨some 79, _, _, _, _, _⟩) (v := ?_) rfl (by decide +kernel) (by decide +kernel) (by decide +kernel) (fun _ _ _ h => h) (Or.inl ⟨by rfl, ?_⟩) (by assumption) ?_
    rotate_left
    ·intro wq hSw; (try dsimp only at hSw); go_simp; (try with_reducible rfl)
    (try simp only [Act.put, List.setIfInBounds_toArray, List.set_cons_zero, List.set_cons_succ]))
   | (
    refine wpAnyH_take (i := 11) (oi := ⟨some 15, _, _, _, _, _⟩) (v := ?_) rfl (by decide +kernel) (by decide +kernel) (by decide +kernel) (fun _ _ _ h => h) (Or.inl ⟨by rfl, ?_⟩) (by assumption) ?_
    rotate_left
    ·intro wq hSw; (try dsimp only at hSw); go_simp; (try with_reducible rfl)
    (try simp only [Act.put, List.setIfInBounds_toArray, List.set_cons_zero, List.set_cons_succ]))
   | (refine wpAnyH_ready (rs := [3, 9]) ?_ ?_ ?_; decide +kernel; simp)
   | (refine wpAnyH_ready (rs := [5, 9]) ?_ ?_ ?_; decide +kernel; simp)
   | (refine wpAnyH_ready (rs := [9]) ?_ ?_ ?_; decide +kernel; simp)
   | (refine wpAnyH_ready (rs := [10]) ?_ ?_ ?_; decide +kernel; simp)
   | (refine wpAnyH_ready (rs := [5]) ?_ ?_ ?_; decide +kernel; simp)
   | (refine wpAnyH_ready (rs := [3]) ?_ ?_ ?_; decide +kernel; simp)
   | (
    first
     | (
      refine AllReadyH.cons (i := 3) (o := ⟨some 75, _, _, _, _, _⟩) rfl (fun K hK => ?_) ?_
      go_simp
      go_at_call 37; refine Calls.mono (radd2_n (hP.out.hb.below kW) (hu1.out.below kW).zm (by have := hP.out.ll; omega) (by omega)) ?_; rintro e wkA ⟨sA, aA, lA, cA, rfl, hzA, kA, hlA⟩
      try have z14 := z14.below kA
      have kW := grow_step kA kW
      try go_wp2_with fail)
     | (
      refine AllReadyH.cons (i := 5) (o := ⟨some 77, _, _, _, _, _⟩) rfl (fun K hK => ?_) ?_
      go_simp
      go_at_call 22; refine Calls.mono (Count_n (zl := ⟨sA, aA, lA, cA⟩) (hP.out.ps.below kW) (by omega) hzA.zm (by show lA ≤ _; have := hP.out.ll; omega) (hP.out.hc.below kW) (by have := hP.out.ll; omega)) ?_; rintro e wkB ⟨zk2, rfl, hzk, -, kB⟩
      have hzl := cnt_short hzk hKy1.out hKz.out
      try have z14 := z14.below kB
      have kW := grow_step kB kW
      try go_wp2_with fail)
     | (
      refine AllReadyH.cons (i := 9) (o := ⟨some 14, _, _, _, _, _⟩) rfl (fun K hK => ?_) ?_
      obtain ⟨wL, b14, eL, eb14, z14, hb14, kL, kW⟩ := al_b kW (.cells #[.bool false, .slice none 0 0] 38)
      replace z14 : ZB wL b14 false none 0 0 := z14
      try have hzA := hzA.below kL
      try have hzk := hzk.below kL
      go_simp
      rw [eL.out]
      (try simp only [eb14.out]))
     | (
      refine AllReadyH.cons (i := 10) (o := ⟨none, _, _, _, _, _⟩) rfl (fun K hK => ?_) ?_
      have f0 := z14.c0
      have f1 := z14.c1
      have f2 := z14.f 0
      have f3 := z14.f 1
      obtain ⟨w8x, e8, z14, kZ, hzn, hzb⟩ := fst_z kW hb14 z14 zk2.s zk2.a zk2.l zk2.c
      have hzk := hzn _ _ _ _ _ hzk
      go_simp
      rw [e8.out]
      clear f0 f1 f2 f3 hzn hzb
      have kW := kZ)
    refine hK.out _ _ ?_ ?_
    ·first | with_reducible exact trivial | ((try dsimp only); exact ⟨⟨(hP.out.y7.below kW).c0, (hP.out.y7.below kW).c1⟩, ⟨(y11.out.below kW).c0, (y11.out.below kW).c1⟩, ⟨(hP.out.y8.below kW).c0, (hP.out.y8.below kW).c1⟩⟩)
    clear hK K hHeld; intro hHeld
    (try simp only [Act.put, List.setIfInBounds_toArray, List.set_cons_zero, List.set_cons_succ]))
  all_goals
   refine wpAnyH_done ?_ ?_ _
   ·decide +kernel
   have t1 := hide hzk
   have t2 := hide z14
   have t3 := hide kW
   clear kW hHeld hzA hzk z14
   go_wp2_with fail
   go_meet
   case rel => exact ⟨b14, zk2, rfl, rfl, t2, t1, hzl, t3⟩
 case rest => as_aux_lemma =>
 obtain ⟨b14, zk2, rfl, rfl, y14, hk2, hk2l, kN⟩ := hcut
 generalize wc = wF at *
 replace hP := hide (hP.out.below kN.out)
 replace hu1 := hide (hu1.out.below kN.out)
 replace y11 := hide (y11.out.below kN.out)
 replace hk1 := hide (hk1.out.below kN.out)
 replace y12 := hide (y12.out.below kN.out)
 replace kw := hide (grow_step kN.out kw.out)
 clear kN
 have hco := hide (Count_n hP.out.ps (by first | omega | (rw [cR]; omega)) hP.out.ha (by have := hP.out.ll; omega) hP.out.hc (by have := hP.out.ll; omega))
 have c0 := hP.out.y6.c0
 have c1 := hP.out.y6.c1
 have c2 := hP.out.y8.c0
 have c3 := hP.out.y8.c1
 go_wp2_with fail
 refine hco.out.mono ?_
 rintro e wG ⟨zk3, rfl, hk3, -, kN⟩
 have hk3l := cnt_short hk3 hKx.out hKz.out
 have kA := grow_step (below_alloc wG (.cells #[.bool zk3.s, .slice zk3.a zk3.l zk3.c] 38)) kN
 have y16 := hide (zb_new wG zk3.s zk3.a zk3.l zk3.c)
 replace hk3 := hide (hk3.below (below_alloc wG (.cells #[.bool zk3.s, .slice zk3.a zk3.l zk3.c] 38)))
 replace hP := hide (hP.out.below kA)
 replace hu1 := hide (hu1.out.below kA)
 replace y11 := hide (y11.out.below kA)
 replace hk1 := hide (hk1.out.below kA)
 replace y12 := hide (y12.out.below kA)
 replace hk2 := hide (hk2.out.below kA)
 replace y14 := hide (y14.out.below kA)
 replace kw := hide (grow_step kA kw.out)
 clear hco kA kN c0 c1 c2 c3
 go_upto_region 16 with (fail)
 generalize wG.alloc (.cells #[.bool zk3.s, .slice zk3.a zk3.l zk3.c] 38) = wH at *
 obtain ⟨b16, hb16⟩ : ∃ c, wG.heap.size = c := ⟨_, rfl⟩
 rw [hb16] at y16 ⊢
 clear hb16
 have hre := hide (rest_n hP.out.ps (by omega))
 go_wp2_with fail
 refine hre.out.mono ?_
 rintro e wI ⟨bR, R, rfl, hR, kN, -, cR, mR⟩
 replace hP := hide (hP.out.below kN)
 replace hu1 := hide (hu1.out.below kN)
 replace y11 := hide (y11.out.below kN)
 replace hk1 := hide (hk1.out.below kN)
 replace y12 := hide (y12.out.below kN)
 replace hk2 := hide (hk2.out.below kN)
 replace y14 := hide (y14.out.below kN)
 replace hk3 := hide (hk3.out.below kN)
 replace y16 := hide (y16.out.below kN)
 replace kw := hide (grow_step kN kw.out)
 replace hR := hide hR
 have hnR : Hid ((cntI (mem D) x3 z2 : Int) + cntI (mem R) x3 z2 = z2 - x3 + 1) := hide (cntI_not mR (by omega))
 have hsum : Hid (((cntI (mem D) x3 y3 : Nat) : Int) + ((cntI (mem D) (y3 + 1) z2 : Nat) : Int) = ((cntI (mem D) x3 z2 : Nat) : Int)) := hide (by
  have := cntI_parts (mem D) hyz.1 hyz.2
  omega)
 clear hre kN mR
 go_upto_region 17 with (fail)
 refine wp_region_held_drew (S := (fun w' => (w'.cell? ⟨b12, 0, none⟩ = some (.bool zk1.s) ∧ w'.cell? ⟨b12, 1, none⟩ = some (.slice zk1.a zk1.l zk1.c)) ∧ (w'.cell? ⟨b14, 0, none⟩ = some (.bool zk2.s) ∧ w'.cell? ⟨b14, 1, none⟩ = some (.slice zk2.a zk2.l zk2.c)) ∧ (w'.cell? ⟨b16, 0, none⟩ = some (.bool zk3.s) ∧ w'.cell? ⟨b16, 1, none⟩ = some (.slice zk3.a zk3.l zk3.c)))) (by kernel_rfl) (⟨⟨(y12.out.below (grow_drew (Below.refl _ _))).c0, (y12.out.below (grow_drew (Below.refl _ _))).c1⟩, ⟨(y14.out.below (grow_drew (Below.refl _ _))).c0, (y14.out.below (grow_drew (Below.refl _ _))).c1⟩, ⟨(y16.out.below (grow_drew (Below.refl _ _))).c0, (y16.out.below (grow_drew (Below.refl _ _))).c1⟩⟩) (fun hHeld => ?_)
 show wpAnyH _ _ _ _ _ 22 _ _ _
 have kW := grow_drew (Below.refl wI.heap.size wI)
 generalize wI.drew = wQ at *
 refine wpAnyH_take (i := 0) (oi := ⟨some 89, _, _, _, _, _⟩) (v := ?_) rfl (by decide +kernel) (by decide +kernel) (by decide +kernel) (fun _ _ _ h => h) (Or.inl ⟨by rfl, ?_⟩) (by assumption) ?_
 rotate_left
 ·intro wq hSw; (try dsimp only at hSw); go_simp; (try with_reducible rfl)
 (try simp only [Act.put, List.setIfInBounds_toArray, List.set_cons_zero, List.set_cons_succ])
 refine wpAnyH_take (i := 1) (oi := ⟨some 90, _, _, _, _, _⟩) (v := ?_) rfl (by decide +kernel) (by decide +kernel) (by decide +kernel) (fun _ _ _ h => h) (Or.inl ⟨by rfl, ?_⟩) (by assumption) ?_
 rotate_left
 ·intro wq hSw; (try dsimp only at hSw); go_simp; (try with_reducible rfl)
 (try simp only [Act.put, List.setIfInBounds_toArray, List.set_cons_zero, List.set_cons_succ])
 refine wpAnyH_take (i := 2) (oi := ⟨some 91, _, _, _, _, _⟩) (v := ?_) rfl (by decide +kernel) (by decide +kernel) (by decide +kernel) (fun _ _ _ h => h) (Or.inl ⟨by rfl, ?_⟩) (by assumption) ?_
 rotate_left
 ·intro wq hSw; (try dsimp only at hSw); go_simp; (try with_reducible rfl)
 (try simp only [Act.put, List.setIfInBounds_toArray, List.set_cons_zero, List.set_cons_succ])
 refine wpAnyH_take (i := 3) (oi := ⟨some 92, _, _, _, _, _⟩) (v := ?_) rfl (by decide +kernel) (by decide +kernel) (by decide +kernel) (fun _ _ _ h => h) (Or.inl ⟨by rfl, ?_⟩) (by assumption) ?_
 rotate_left
 ·intro wq hSw; (try dsimp only at hSw); go_simp; (try with_reducible rfl)
 (try simp only [Act.put, List.setIfInBounds_toArray, List.set_cons_zero, List.set_cons_succ])
 refine wpAnyH_take (i := 4) (oi := ⟨some 93, _, _, _, _, _⟩) (v := ?_) rfl (by decide +kernel) (by decide +kernel) (by decide +kernel) (fun _ _ _ h => h) (Or.inl ⟨by rfl, ?_⟩) (by assumption) ?_
 rotate_left
 ·intro wq hSw; (try dsimp only at hSw); go_simp; (try with_reducible rfl)
 (try simp only [Act.put, List.setIfInBounds_toArray, List.set_cons_zero, List.set_cons_succ])
 refine wpAnyH_take (i := 5) (oi := ⟨some 94, _, _, _, _, _⟩) (v := ?_) rfl (by decide +kernel) (by decide +kernel) (by decide +kernel) (fun _ _ _ h => h) (Or.inl ⟨by rfl, ?_⟩) (by assumption) ?_
 rotate_left
 ·intro wq hSw; (try dsimp only at hSw); go_simp; (try with_reducible rfl)
 (try simp only [Act.put, List.setIfInBounds_toArray, List.set_cons_zero, List.set_cons_succ])
 refine wpAnyH_take (i := 6) (oi := ⟨some 95, _, _, _, _, _⟩) (v := ?_) rfl (by decide +kernel) (by decide +kernel) (by decide +kernel) (fun _ _ _ h => h) (Or.inl ⟨by rfl, ?_⟩) (by assumption) ?_
 rotate_left
 ·intro wq hSw; (try dsimp only at hSw); go_simp; (try with_reducible rfl)
 (try simp only [Act.put, List.setIfInBounds_toArray, List.set_cons_zero, List.set_cons_succ])
 refine wpAnyH_take (i := 7) (oi := ⟨some 96, _, _, _, _, _⟩) (v := ?_) rfl (by decide +kernel) (by decide +kernel) (by decide +kernel) (fun _ _ _ h => h) (Or.inl ⟨by rfl, ?_⟩) (by assumption) ?_
 rotate_left
 ·intro wq hSw; (try dsimp only at hSw); go_simp; (try with_reducible rfl)
 (try simp only [Act.put, List.setIfInBounds_toArray, List.set_cons_zero, List.set_cons_succ])
 refine wpAnyH_take (i := 8) (oi := ⟨some 97, _, _, _, _, _⟩) (v := ?_) rfl (by decide +kernel) (by decide +kernel) (by decide +kernel) (fun _ _ _ h => h) (Or.inl ⟨by rfl, ?_⟩) (by assumption) ?_
 rotate_left
 ·intro wq hSw; (try dsimp only at hSw); go_simp; (try with_reducible rfl)
 (try simp only [Act.put, List.setIfInBounds_toArray, List.set_cons_zero, List.set_cons_succ])
 refine wpAnyH_take (i := 9) (oi := ⟨some 98, _, _, _, _, _⟩) (v := ?_) rfl (by decide +kernel) (by decide +kernel) (by decide +kernel) (fun _ _ _ h => h) (Or.inl ⟨by rfl, ?_⟩) (by assumption) ?_
 rotate_left
 ·intro wq hSw; (try dsimp only at hSw); go_simp; (try with_reducible rfl)
 (try simp only [Act.put, List.setIfInBounds_toArray, List.set_cons_zero, List.set_cons_succ])
 refine wpAnyH_take (i := 10) (oi := ⟨some 99, _, _, _, _, _⟩) (v := ?_) rfl (by decide +kernel) (by decide +kernel) (by decide +kernel) (fun _ _ _ h => h) (Or.inl ⟨by rfl, ?_⟩) (by assumption) ?_
 rotate_left
 ·intro wq hSw; (try dsimp only at hSw); go_simp; (try with_reducible rfl)
 (try simp only [Act.put, List.setIfInBounds_toArray, List.set_cons_zero, List.set_cons_succ])
 refine wpAnyH_take (i := 11) (oi := ⟨some 100, _, _, _, _, _⟩) (v := ?_) rfl (by decide +kernel) (by decide +kernel) (by decide +kernel) (fun _ _ _ h => h) (Or.inl ⟨by rfl, ?_⟩) (by assumption) ?_
 rotate_left
 ·intro wq hSw; (try dsimp only at hSw); go_simp; (try with_reducible rfl)
 (try simp only [Act.put, List.setIfInBounds_toArray, List.set_cons_zero, List.set_cons_succ])
 refine wpAnyH_take (i := 12) (oi := ⟨some 101, _, _, _, _, _⟩) (v := ?_) rfl (by decide +kernel) (by decide +kernel) (by decide +kernel) (fun _ _ _ h => h) (Or.inl ⟨by rfl, ?_⟩) (by assumption) ?_
 rotate_left
 ·intro wq hSw; (try dsimp only at hSw); go_simp; (try with_reducible rfl)
 (try simp only [Act.put, List.setIfInBounds_toArray, List.set_cons_zero, List.set_cons_succ])
 refine wpAnyH_take (i := 13) (oi := ⟨some 102, _, _, _, _, _⟩) (v := ?_) rfl (by decide +kernel) (by decide +kernel) (by decide +kernel) (fun _ _ _ h => h) (Or.inl ⟨by rfl, ?_⟩) (by assumption) ?_
 rotate_left
 ·intro wq hSw; (try dsimp only at hSw); go_simp; (try with_reducible rfl)
 (try simp only [Act.put, List.setIfInBounds_toArray, List.set_cons_zero, List.set_cons_succ])
 refine wpAnyH_take (i := 14) (oi := ⟨some 103, _, _, _, _, _⟩) (v := ?_) rfl (by decide +kernel) (by decide +kernel) (by decide +kernel) (fun _ _ _ h => h) (Or.inl ⟨by rfl, ?_⟩) (by assumption) ?_
 rotate_left
 ·intro wq hSw; (try dsimp only at hSw); go_simp; (try with_reducible rfl)
 (try simp only [Act.put, List.setIfInBounds_toArray, List.set_cons_zero, List.set_cons_succ])
 refine wpAnyH_take (i := 15) (oi := ⟨some 104, _, _, _, _, _⟩) (v := ?_) rfl (by decide +kernel) (by decide +kernel) (by decide +kernel) (fun _ _ _ h => h) (Or.inl ⟨by rfl, ?_⟩) (by assumption) ?_
 rotate_left
 ·intro wq hSw; (try dsimp only at hSw); go_simp; (try with_reducible rfl)
 (try simp only [Act.put, List.setIfInBounds_toArray, List.set_cons_zero, List.set_cons_succ])
 refine wpAnyH_take (i := 16) (oi := ⟨some 105, _, _, _, _, _⟩) (v := ?_) rfl (by decide +kernel) (by decide +kernel) (by decide +kernel) (fun _ _ _ h => h) (Or.inl ⟨by rfl, ?_⟩) (by assumption) ?_
 rotate_left
 ·intro wq hSw; (try dsimp only at hSw); go_simp; (try with_reducible rfl)
 (try simp only [Act.put, List.setIfInBounds_toArray, List.set_cons_zero, List.set_cons_succ])
 refine wpAnyH_take (i := 18) (oi := ⟨some 107, _, _, _, _, _⟩) (v := ?_) rfl (by decide +kernel) (by decide +kernel) (by decide +kernel) (fun _ _ _ h => h) (Or.inl ⟨by rfl, ?_⟩) (by assumption) ?_
 rotate_left
 ·intro wq hSw; (try dsimp only at hSw); go_simp; (try with_reducible rfl)
 (try simp only [Act.put, List.setIfInBounds_toArray, List.set_cons_zero, List.set_cons_succ])
 refine wpAnyH_ready (rs := [17]) (by decide +kernel) (by simp) ?_
 refine AllReadyH.cons (i := 17) (o := ⟨some 106, _, _, _, _, _⟩) rfl (fun K hK => ?_) AllReadyH.nil
 go_simp
 go_at_call 37; refine Calls.mono (radd2_n (hk1.out.below kW).zm (hk2.out.below kW).zm (by omega) (by omega)) ?_; rintro e wkA ⟨sA, aA, lA, cA, rfl, hzA, kA, hlA⟩
 rw [hsum.out] at hzA
 have kW := grow_step kA kW
 try go_wp2_with fail
 refine hK.out _ _ ?_ ?_
 ·first | with_reducible exact trivial | ((try dsimp only); exact ⟨⟨(y12.out.below kW).c0, (y12.out.below kW).c1⟩, ⟨(y14.out.below kW).c0, (y14.out.below kW).c1⟩, ⟨(y16.out.below kW).c0, (y16.out.below kW).c1⟩⟩)
 clear hK K hHeld; intro hHeld
 (try simp only [Act.put, List.setIfInBounds_toArray, List.set_cons_zero, List.set_cons_succ])
 refine wpAnyH_ready (rs := [19]) (by decide +kernel) (by simp) ?_
 refine AllReadyH.cons (i := 19) (o := ⟨some 108, _, _, _, _, _⟩) rfl (fun K hK => ?_) AllReadyH.nil
 go_simp
 go_at_call 23; refine Calls.mono (ints19_zn (z := ⟨sA, aA, lA, cA⟩) (y := zk3) hzA (hk3.out.below kW)) ?_; rintro e wkE ⟨rfl, kE⟩
 have kW := grow_step kE kW
 try go_wp2_with fail
 refine hK.out _ _ ?_ ?_
 ·first | with_reducible exact trivial | ((try dsimp only); exact ⟨⟨(y12.out.below kW).c0, (y12.out.below kW).c1⟩, ⟨(y14.out.below kW).c0, (y14.out.below kW).c1⟩, ⟨(y16.out.below kW).c0, (y16.out.below kW).c1⟩⟩)
 clear hK K hHeld; intro hHeld
 (try simp only [Act.put, List.setIfInBounds_toArray, List.set_cons_zero, List.set_cons_succ])
 refine wpAnyH_take (i := 20) (oi := ⟨some 109, _, _, _, _, _⟩) (v := ?_) rfl (by decide +kernel) (by decide +kernel) (by decide +kernel) (fun _ _ _ h => h) (Or.inl ⟨by rfl, ?_⟩) (by assumption) ?_
 rotate_left
 ·intro wq hSw; (try dsimp only at hSw); go_simp; (try with_reducible rfl)
 (try simp only [Act.put, List.setIfInBounds_toArray, List.set_cons_zero, List.set_cons_succ])
 refine wpAnyH_take (i := 21) (oi := ⟨some 110, _, _, _, _, _⟩) (v := ?_) rfl (by decide +kernel) (by decide +kernel) (by decide +kernel) (fun _ _ _ h => h) (Or.inl ⟨by rfl, ?_⟩) (by assumption) ?_
 rotate_left
 ·intro wq hSw; (try dsimp only at hSw); go_simp; (try with_reducible rfl)
 (try simp only [Act.put, List.setIfInBounds_toArray, List.set_cons_zero, List.set_cons_succ])
 refine wpAnyH_done ?_ ?_ _
 ·decide +kernel
 have kq := hide kW
 clear kW hHeld hzA
 replace hP := hide (hP.out.below kq.out)
 replace hu1 := hide (hu1.out.below kq.out)
 replace y11 := hide (y11.out.below kq.out)
 replace hk1 := hide (hk1.out.below kq.out)
 replace y12 := hide (y12.out.below kq.out)
 replace hk2 := hide (hk2.out.below kq.out)
 replace y14 := hide (y14.out.below kq.out)
 replace hk3 := hide (hk3.out.below kq.out)
 replace y16 := hide (y16.out.below kq.out)
 replace hR := hide (hR.out.below kq.out)
 replace kw := hide (grow_step kq.out kw.out)
 clear kq hsum
 clear y12 y14 hk1 hk2 hk1l hk2l
 have hco := hide (Count_n hR.out (by first | omega | (rw [cR]; omega)) hP.out.ha (by have := hP.out.ll; omega) hP.out.hc (by have := hP.out.ll; omega))
 have c0 := hP.out.y6.c0
 have c1 := hP.out.y6.c1
 have c2 := hP.out.y8.c0
 have c3 := hP.out.y8.c1
 go_wp2_with fail
 refine hco.out.mono ?_
 rintro e wJ ⟨zk4, rfl, hk4, -, kN⟩
 have hk4l := cnt_short hk4 hKx.out hKz.out
 have kA := grow_step (below_alloc wJ (.cells #[.bool zk4.s, .slice zk4.a zk4.l zk4.c] 38)) kN
 have y19 := hide (zb_new wJ zk4.s zk4.a zk4.l zk4.c)
 replace hk4 := hide (hk4.below (below_alloc wJ (.cells #[.bool zk4.s, .slice zk4.a zk4.l zk4.c] 38)))
 replace hP := hide (hP.out.below kA)
 replace hu1 := hide (hu1.out.below kA)
 replace y11 := hide (y11.out.below kA)
 replace hk3 := hide (hk3.out.below kA)
 replace y16 := hide (y16.out.below kA)
 replace hR := hide (hR.out.below kA)
 replace kw := hide (grow_step kA kw.out)
 clear hco kA kN c0 c1 c2 c3
 go_upto_region 20 with (fail)
 generalize wJ.alloc (.cells #[.bool zk4.s, .slice zk4.a zk4.l zk4.c] 38) = wK at *
 obtain ⟨b19, hb19⟩ : ∃ c, wJ.heap.size = c := ⟨_, rfl⟩
 rw [hb19] at y19 ⊢
 clear hb19
 refine wp_region_held_drew (S := (fun w' => (w'.cell? ⟨b16, 0, none⟩ = some (.bool zk3.s) ∧ w'.cell? ⟨b16, 1, none⟩ = some (.slice zk3.a zk3.l zk3.c)) ∧ (w'.cell? ⟨b19, 0, none⟩ = some (.bool zk4.s) ∧ w'.cell? ⟨b19, 1, none⟩ = some (.slice zk4.a zk4.l zk4.c)) ∧ (w'.cell? ⟨b8, 0, none⟩ = some (.bool zc2.s) ∧ w'.cell? ⟨b8, 1, none⟩ = some (.slice zc2.a zc2.l zc2.c)) ∧ (w'.cell? ⟨b6, 0, none⟩ = some (.bool za3.s) ∧ w'.cell? ⟨b6, 1, none⟩ = some (.slice za3.a za3.l za3.c)) ∧ (w'.cell? ⟨b11, 0, none⟩ = some (.bool u1.s) ∧ w'.cell? ⟨b11, 1, none⟩ = some (.slice u1.a u1.l u1.c)))) (by kernel_rfl) (⟨⟨(y16.out.below (grow_drew (Below.refl _ _))).c0, (y16.out.below (grow_drew (Below.refl _ _))).c1⟩, ⟨(y19.out.below (grow_drew (Below.refl _ _))).c0, (y19.out.below (grow_drew (Below.refl _ _))).c1⟩, ⟨(hP.out.y8.below (grow_drew (Below.refl _ _))).c0, (hP.out.y8.below (grow_drew (Below.refl _ _))).c1⟩, ⟨(hP.out.y6.below (grow_drew (Below.refl _ _))).c0, (hP.out.y6.below (grow_drew (Below.refl _ _))).c1⟩, ⟨(y11.out.below (grow_drew (Below.refl _ _))).c0, (y11.out.below (grow_drew (Below.refl _ _))).c1⟩⟩) (fun hHeld => ?_)
 show wpAnyH _ _ _ _ _ 14 _ _ _
 have kW := grow_drew (Below.refl wK.heap.size wK)
 generalize wK.drew = wQ at *
 refine wpAnyH_take (i := 0) (oi := ⟨some 118, _, _, _, _, _⟩) (v := ?_) rfl (by decide +kernel) (by decide +kernel) (by decide +kernel) (fun _ _ _ h => h) (Or.inl ⟨by rfl, ?_⟩) (by assumption) ?_
 rotate_left
 ·intro wq hSw; (try dsimp only at hSw); go_simp; (try with_reducible rfl)
 (try simp only [Act.put, List.setIfInBounds_toArray, List.set_cons_zero, List.set_cons_succ])
 refine wpAnyH_take (i := 1) (oi := ⟨some 119, _, _, _, _, _⟩) (v := ?_) rfl (by decide +kernel) (by decide +kernel) (by decide +kernel) (fun _ _ _ h => h) (Or.inl ⟨by rfl, ?_⟩) (by assumption) ?_
 rotate_left
 ·intro wq hSw; (try dsimp only at hSw); go_simp; (try with_reducible rfl)
 (try simp only [Act.put, List.setIfInBounds_toArray, List.set_cons_zero, List.set_cons_succ])
 refine wpAnyH_take (i := 2) (oi := ⟨some 120, _, _, _, _, _⟩) (v := ?_) rfl (by decide +kernel) (by decide +kernel) (by decide +kernel) (fun _ _ _ h => h) (Or.inl ⟨by rfl, ?_⟩) (by assumption) ?_
 rotate_left
 ·intro wq hSw; (try dsimp only at hSw); go_simp; (try with_reducible rfl)
 (try simp only [Act.put, List.setIfInBounds_toArray, List.set_cons_zero, List.set_cons_succ])
 refine wpAnyH_take (i := 3) (oi := ⟨some 121, _, _, _, _, _⟩) (v := ?_) rfl (by decide +kernel) (by decide +kernel) (by decide +kernel) (fun _ _ _ h => h) (Or.inl ⟨by rfl, ?_⟩) (by assumption) ?_
 rotate_left
 ·intro wq hSw; (try dsimp only at hSw); go_simp; (try with_reducible rfl)
 (try simp only [Act.put, List.setIfInBounds_toArray, List.set_cons_zero, List.set_cons_succ])
 refine wpAnyH_take (i := 4) (oi := ⟨some 122, _, _, _, _, _⟩) (v := ?_) rfl (by decide +kernel) (by decide +kernel) (by decide +kernel) (fun _ _ _ h => h) (Or.inl ⟨by rfl, ?_⟩) (by assumption) ?_
 rotate_left
 ·intro wq hSw; (try dsimp only at hSw); go_simp; (try with_reducible rfl)
 (try simp only [Act.put, List.setIfInBounds_toArray, List.set_cons_zero, List.set_cons_succ])
 refine wpAnyH_take (i := 6) (oi := ⟨some 124, _, _, _, _, _⟩) (v := ?_) rfl (by decide +kernel) (by decide +kernel) (by decide +kernel) (fun _ _ _ h => h) (Or.inl ⟨by rfl, ?_⟩) (by assumption) ?_
 rotate_left
 ·intro wq hSw; (try dsimp only at hSw); go_simp; (try with_reducible rfl)
 (try simp only [Act.put, List.setIfInBounds_toArray, List.set_cons_zero, List.set_cons_succ])
 refine wpAnyH_take (i := 7) (oi := ⟨some 125, _, _, _, _, _⟩) (v := ?_) rfl (by decide +kernel) (by decide +kernel) (by decide +kernel) (fun _ _ _ h => h) (Or.inl ⟨by rfl, ?_⟩) (by assumption) ?_
 rotate_left
 ·intro wq hSw; (try dsimp only at hSw); go_simp; (try with_reducible rfl)
 (try simp only [Act.put, List.setIfInBounds_toArray, List.set_cons_zero, List.set_cons_succ])
 refine wpAnyH_take (i := 9) (oi := ⟨some 127, _, _, _, _, _⟩) (v := ?_) rfl (by decide +kernel) (by decide +kernel) (by decide +kernel) (fun _ _ _ h => h) (Or.inl ⟨by rfl, ?_⟩) (by assumption) ?_
 rotate_left
 ·intro wq hSw; (try dsimp only at hSw); go_simp; (try with_reducible rfl)
 (try simp only [Act.put, List.setIfInBounds_toArray, List.set_cons_zero, List.set_cons_succ])
 refine wpAnyH_ready (rs := [5]) (by decide +kernel) (by simp) ?_
 refine AllReadyH.cons (i := 5) (o := ⟨some 123, _, _, _, _, _⟩) rfl (fun K hK => ?_) AllReadyH.nil
 go_simp
 go_at_call 37; refine Calls.mono (radd2_n (hk3.out.below kW).zm (hk4.out.below kW).zm (by omega) (by omega)) ?_; rintro e wkA ⟨sA, aA, lA, cA, rfl, hzA, kA, hlA⟩
 rw [hnR.out] at hzA
 have kW := grow_step kA kW
 try go_wp2_with fail
 refine hK.out _ _ ?_ ?_
 ·first | with_reducible exact trivial | ((try dsimp only); exact ⟨⟨(y16.out.below kW).c0, (y16.out.below kW).c1⟩, ⟨(y19.out.below kW).c0, (y19.out.below kW).c1⟩, ⟨(hP.out.y8.below kW).c0, (hP.out.y8.below kW).c1⟩, ⟨(hP.out.y6.below kW).c0, (hP.out.y6.below kW).c1⟩, ⟨(y11.out.below kW).c0, (y11.out.below kW).c1⟩⟩)
 clear hK K hHeld; intro hHeld
 (try simp only [Act.put, List.setIfInBounds_toArray, List.set_cons_zero, List.set_cons_succ])
 refine wpAnyH_ready (rs := [8]) (by decide +kernel) (by simp) ?_
 refine AllReadyH.cons (i := 8) (o := ⟨some 126, _, _, _, _, _⟩) rfl (fun K hK => ?_) AllReadyH.nil
 go_simp
 go_at_call 39; refine Calls.mono (rsub2_n (hP.out.hc.below kW) (hP.out.ha.below kW) (by have := hP.out.ll; omega) (by have := hP.out.ll; omega)) ?_; rintro e wkB ⟨sB, aB, lB, cB, rfl, hzB, kB, hlB⟩
 try have hzA := hzA.below kB
 have kW := grow_step kB kW
 try go_wp2_with fail
 refine hK.out _ _ ?_ ?_
 ·first | with_reducible exact trivial | ((try dsimp only); exact ⟨⟨(y16.out.below kW).c0, (y16.out.below kW).c1⟩, ⟨(y19.out.below kW).c0, (y19.out.below kW).c1⟩, ⟨(hP.out.y8.below kW).c0, (hP.out.y8.below kW).c1⟩, ⟨(hP.out.y6.below kW).c0, (hP.out.y6.below kW).c1⟩, ⟨(y11.out.below kW).c0, (y11.out.below kW).c1⟩⟩)
 clear hK K hHeld; intro hHeld
 (try simp only [Act.put, List.setIfInBounds_toArray, List.set_cons_zero, List.set_cons_succ])
 refine wpAnyH_ready (rs := [10]) (by decide +kernel) (by simp) ?_
 refine AllReadyH.cons (i := 10) (o := ⟨some 128, _, _, _, _, _⟩) rfl (fun K hK => ?_) AllReadyH.nil
 go_simp
 go_at_call 37; refine Calls.mono (radd2_n hzB.zm (hu1.out.below kW).zm (by have := hP.out.ll; omega) (by omega)) ?_; rintro e wkC ⟨sC, aC, lC, cC, rfl, hzC, kC, hlC⟩
 try have hzA := hzA.below kC
 have kW := grow_step kC kW
 try go_wp2_with fail
 refine hK.out _ _ ?_ ?_
 ·first | with_reducible exact trivial | ((try dsimp only); exact ⟨⟨(y16.out.below kW).c0, (y16.out.below kW).c1⟩, ⟨(y19.out.below kW).c0, (y19.out.below kW).c1⟩, ⟨(hP.out.y8.below kW).c0, (hP.out.y8.below kW).c1⟩, ⟨(hP.out.y6.below kW).c0, (hP.out.y6.below kW).c1⟩, ⟨(y11.out.below kW).c0, (y11.out.below kW).c1⟩⟩)
 clear hK K hHeld; intro hHeld
 (try simp only [Act.put, List.setIfInBounds_toArray, List.set_cons_zero, List.set_cons_succ])
 refine wpAnyH_ready (rs := [11]) (by decide +kernel) (by simp) ?_
 refine AllReadyH.cons (i := 11) (o := ⟨some 129, _, _, _, _, _⟩) rfl (fun K hK => ?_) AllReadyH.nil
 go_simp
 go_at_call 23; refine Calls.mono (ints19_zn (z := ⟨sA, aA, lA, cA⟩) (y := ⟨sC, aC, lC, cC⟩) hzA hzC) ?_; rintro e wkE ⟨rfl, kE⟩
 have kW := grow_step kE kW
 try go_wp2_with fail
 refine hK.out _ _ ?_ ?_
 ·first | with_reducible exact trivial | ((try dsimp only); exact ⟨⟨(y16.out.below kW).c0, (y16.out.below kW).c1⟩, ⟨(y19.out.below kW).c0, (y19.out.below kW).c1⟩, ⟨(hP.out.y8.below kW).c0, (hP.out.y8.below kW).c1⟩, ⟨(hP.out.y6.below kW).c0, (hP.out.y6.below kW).c1⟩, ⟨(y11.out.below kW).c0, (y11.out.below kW).c1⟩⟩)
 clear hK K hHeld; intro hHeld
 (try simp only [Act.put, List.setIfInBounds_toArray, List.set_cons_zero, List.set_cons_succ])
 refine wpAnyH_take (i := 12) (oi := ⟨some 130, _, _, _, _, _⟩) (v := ?_) rfl (by decide +kernel) (by decide +kernel) (by decide +kernel) (fun _ _ _ h => h) (Or.inl ⟨by rfl, ?_⟩) (by assumption) ?_
 rotate_left
 ·intro wq hSw; (try dsimp only at hSw); go_simp; (try with_reducible rfl)
 (try simp only [Act.put, List.setIfInBounds_toArray, List.set_cons_zero, List.set_cons_succ])
 refine wpAnyH_take (i := 13) (oi := ⟨some 131, _, _, _, _, _⟩) (v := ?_) rfl (by decide +kernel) (by decide +kernel) (by decide +kernel) (fun _ _ _ h => h) (Or.inl ⟨by rfl, ?_⟩) (by assumption) ?_
 rotate_left
 ·intro wq hSw; (try dsimp only at hSw); go_simp; (try with_reducible rfl)
 (try simp only [Act.put, List.setIfInBounds_toArray, List.set_cons_zero, List.set_cons_succ])
 refine wpAnyH_done ?_ ?_ _
 ·decide +kernel
 have kq := hide kW
 clear kW hHeld hzA hzB hzC hR y11 hu1 y19 hk4 hnR
 replace hP := hide (hP.out.below kq.out)
 replace hk3 := hide (hk3.out.below kq.out)
 replace y16 := hide (y16.out.below kq.out)
 replace kw := hide (grow_step kq.out kw.out)
 clear kq
 have hli := hide (List_n hP.out.ps (by omega) hP.out.ha (by have := hP.out.ll; omega) hP.out.hc (by have := hP.out.ll; omega))
 have c0 := hP.out.y6.c0
 have c1 := hP.out.y6.c1
 have c2 := hP.out.y8.c0
 have c3 := hP.out.y8.c1
 go_wp2_with fail
 refine hli.out.mono ?_
 rintro e wM ⟨kN, hor⟩
 replace hP := hide (hP.out.below kN)
 replace hk3 := hide (hk3.out.below kN)
 replace y16 := hide (y16.out.below kN)
 replace kw := hide (grow_step kN kw.out)
 clear hli kN c0 c1 c2 c3
 rcases hor with ⟨la, n, lc, rfl, hn, hsn⟩ | ⟨rfl, hgt⟩
 ·obtain ⟨xs, hxs⟩ : ∃ xs, memI (mem D) x3 z2 = xs := ⟨_, rfl⟩
  rw [hxs] at hsn
  have hlen : n = cntI (mem D) x3 z2 := by rw [← hsn.1, ← hxs, memI_len]
  rw [← hlen] at hk3
  have hup : ∀ i j (hi : i < xs.length) (hj : j < xs.length), i < j → xs[i] < xs[j] := by
   have := memI_up (mem D) x3 z2
   rw [hxs] at this
   exact List.pairwise_iff_getElem.1 this
  have hin : ∀ v ∈ xs, mem D v = true ∧ x3 ≤ v ∧ v ≤ z2 := fun v hv => memI_mem (by rw [hxs]; exact hv)
  replace hup := hide hup
  replace hin := hide hin
  replace hsn := hide hsn
  clear hxs hlen
  go_wp2_with fail
  go_loopw [21] (fun vi wr => ∃ i : Nat, i ≤ n ∧ vi = .int .i64 i ∧ Below wM.heap.size wM wr) (fun vi _ => n - (intOf vi).toNat)
  case atStart => exact ⟨0, Nat.zero_le _, rfl, Below.refl _ _⟩
  case round =>
   obtain ⟨i, hi, rfl, kr⟩ := hrel
   have kw2 := hide (grow_step kr kw.out)
   replace hP := hide (hP.out.below kr)
   replace hk3 := hide (hk3.out.below kr)
   replace y16 := hide (y16.out.below kr)
   by_cases hilt : i < n
   ·have hxl : xs.length = n := hsn.out.1
    obtain ⟨bl, off, zi, rfl, hbl0, c0, c1, hzi, hzil⟩ := hsn.out.2 i hilt (by omega)
    have hbl := Nat.lt_of_lt_of_le hbl0 kr.size
    replace c0 := (kr.cell (p := ⟨bl, _, none⟩) hbl0).trans c0
    replace c1 := (kr.cell (p := ⟨bl, _, none⟩) hbl0).trans c1
    replace hzi := hide (hzi.below kr)
    obtain ⟨hmv, hv0, hv9⟩ := hin.out _ (List.getElem_mem (show i < xs.length by omega))
    obtain ⟨v1, hv1⟩ : ∃ v1, cmpI xs[i] x3 = v1 := ⟨_, rfl⟩
    obtain ⟨v2, hv2⟩ : ∃ v2, cmpI xs[i] z2 = v2 := ⟨_, rfl⟩
    have hd1 : decide (v1 < 0) = false := by rw [decide_eq_false_iff_not, ← hv1]; unfold cmpI; split <;> (try split) <;> omega
    have hd2 : decide (0 < v2) = false := by rw [decide_eq_false_iff_not, ← hv2]; unfold cmpI; split <;> (try split) <;> omega
    by_cases hi0 : i = 0
    ·subst hi0
     rw [Nat.zero_mul, Nat.add_zero] at c0 c1
     have hd0 : Hid (decide ((0 : Int) < 0) = false) := hide rfl
     generalize xs[0]'(by omega) = v at *
     replace hmv := hide hmv
     replace hv1 := hide hv1
     replace hv2 := hide hv2
     replace kr := hide kr
     clear hv0 hv9 hup hin hsn hbl0
     as_aux_lemma =>
     go_upto_region 28 with (fail)
     refine wp_region_held_drew (S := (fun w' => (w'.cell? ⟨bl, off, none⟩ = some (.bool zi.s) ∧ w'.cell? ⟨bl, off + 1, none⟩ = some (.slice zi.a zi.l zi.c)) ∧ (w'.cell? ⟨b6, 0, none⟩ = some (.bool za3.s) ∧ w'.cell? ⟨b6, 1, none⟩ = some (.slice za3.a za3.l za3.c)) ∧ (w'.cell? ⟨b8, 0, none⟩ = some (.bool zc2.s) ∧ w'.cell? ⟨b8, 1, none⟩ = some (.slice zc2.a zc2.l zc2.c)))) (by kernel_rfl) (⟨⟨(Below.cell (p := ⟨bl, _, none⟩) (grow_drew (Below.refl _ _)) hbl).trans c0, (Below.cell (p := ⟨bl, _, none⟩) (grow_drew (Below.refl _ _)) hbl).trans c1⟩, ⟨(hP.out.y6.below (grow_drew (Below.refl _ _))).c0, (hP.out.y6.below (grow_drew (Below.refl _ _))).c1⟩, ⟨(hP.out.y8.below (grow_drew (Below.refl _ _))).c0, (hP.out.y8.below (grow_drew (Below.refl _ _))).c1⟩⟩) (fun hHeld => ?_)
     show wpAnyH _ _ _ _ _ 42 _ _ _
     have kW := grow_drew (Below.refl wr.heap.size wr)
     generalize wr.drew = wQ at *
     refine wpAnyH_take (i := 0) (oi := ⟨some 155, _, _, _, _, _⟩) (v := ?_) rfl (by decide +kernel) (by decide +kernel) (by decide +kernel) (fun _ _ _ h => h) (Or.inl ⟨by rfl, ?_⟩) (by assumption) ?_
     rotate_left
     ·intro wq hSw; (try dsimp only at hSw); go_simp; (try with_reducible rfl)
     (try simp only [Act.put, List.setIfInBounds_toArray, List.set_cons_zero, List.set_cons_succ])
     refine wpAnyH_take (i := 1) (oi := ⟨some 156, _, _, _, _, _⟩) (v := ?_) rfl (by decide +kernel) (by decide +kernel) (by decide +kernel) (fun _ _ _ h => h) (Or.inl ⟨by rfl, ?_⟩) (by assumption) ?_
     rotate_left
     ·intro wq hSw; (try dsimp only at hSw); go_simp; (try with_reducible rfl)
     (try simp only [Act.put, List.setIfInBounds_toArray, List.set_cons_zero, List.set_cons_succ])
     refine wpAnyH_take (i := 2) (oi := ⟨some 157, _, _, _, _, _⟩) (v := ?_) rfl (by decide +kernel) (by decide +kernel) (by decide +kernel) (fun _ _ _ h => h) (Or.inl ⟨by rfl, ?_⟩) (by assumption) ?_
     rotate_left
     ·intro wq hSw; (try dsimp only at hSw); go_simp; (try with_reducible rfl)
     (try simp only [Act.put, List.setIfInBounds_toArray, List.set_cons_zero, List.set_cons_succ])
     refine wpAnyH_take (i := 3) (oi := ⟨some 158, _, _, _, _, _⟩) (v := ?_) rfl (by decide +kernel) (by decide +kernel) (by decide +kernel) (fun _ _ _ h => h) (Or.inl ⟨by rfl, ?_⟩) (by assumption) ?_
     rotate_left
     ·intro wq hSw; (try dsimp only at hSw); go_simp; (try with_reducible rfl)
     (try simp only [Act.put, List.setIfInBounds_toArray, List.set_cons_zero, List.set_cons_succ])
     refine wpAnyH_take (i := 4) (oi := ⟨some 159, _, _, _, _, _⟩) (v := ?_) rfl (by decide +kernel) (by decide +kernel) (by decide +kernel) (fun _ _ _ h => h) (Or.inl ⟨by rfl, ?_⟩) (by assumption) ?_
     rotate_left
     ·intro wq hSw; (try dsimp only at hSw); go_simp; (try with_reducible rfl)
     (try simp only [Act.put, List.setIfInBounds_toArray, List.set_cons_zero, List.set_cons_succ])
     refine wpAnyH_ready (rs := [5]) (by decide +kernel) (by simp) ?_
     refine AllReadyH.cons (i := 5) (o := ⟨some 160, _, _, _, _, _⟩) rfl (fun K hK => ?_) AllReadyH.nil
     go_simp
     go_at_call 40; refine Calls.mono (sHas_n (y := zi) (hP.out.ps.below kW) (by omega) (hzi.out.below kW) (by omega)) ?_; rintro e wkB ⟨rfl, kB⟩
     rw [hmv.out]
     have kW := grow_step kB kW
     try go_wp2_with fail
     refine hK.out _ _ ?_ ?_
     ·first | with_reducible exact trivial | ((try dsimp only); exact ⟨⟨(Below.cell (p := ⟨bl, _, none⟩) kW hbl).trans c0, (Below.cell (p := ⟨bl, _, none⟩) kW hbl).trans c1⟩, ⟨(hP.out.y6.below kW).c0, (hP.out.y6.below kW).c1⟩, ⟨(hP.out.y8.below kW).c0, (hP.out.y8.below kW).c1⟩⟩)
     clear hK K hHeld; intro hHeld
     (try simp only [Act.put, List.setIfInBounds_toArray, List.set_cons_zero, List.set_cons_succ])
     refine wpAnyH_take (i := 6) (oi := ⟨some 161, _, _, _, _, _⟩) (v := ?_) rfl (by decide +kernel) (by decide +kernel) (by decide +kernel) (fun _ _ _ h => h) (Or.inl ⟨by rfl, ?_⟩) (by assumption) ?_
     rotate_left
     ·intro wq hSw; (try dsimp only at hSw); go_simp; (try with_reducible rfl)
     (try simp only [Act.put, List.setIfInBounds_toArray, List.set_cons_zero, List.set_cons_succ])
     refine wpAnyH_take (i := 7) (oi := ⟨some 162, _, _, _, _, _⟩) (v := ?_) rfl (by decide +kernel) (by decide +kernel) (by decide +kernel) (fun _ _ _ h => h) (Or.inl ⟨by rfl, ?_⟩) (by assumption) ?_
     rotate_left
     ·intro wq hSw; (try dsimp only at hSw); go_simp; (try with_reducible rfl)
     (try simp only [Act.put, List.setIfInBounds_toArray, List.set_cons_zero, List.set_cons_succ])
     refine wpAnyH_take (i := 8) (oi := ⟨some 163, _, _, _, _, _⟩) (v := ?_) rfl (by decide +kernel) (by decide +kernel) (by decide +kernel) (fun _ _ _ h => h) (Or.inl ⟨by rfl, ?_⟩) (by assumption) ?_
     rotate_left
     ·intro wq hSw; (try dsimp only at hSw); go_simp; (try with_reducible rfl)
     (try simp only [Act.put, List.setIfInBounds_toArray, List.set_cons_zero, List.set_cons_succ])
     refine wpAnyH_take (i := 9) (oi := ⟨some 164, _, _, _, _, _⟩) (v := ?_) rfl (by decide +kernel) (by decide +kernel) (by decide +kernel) (fun _ _ _ h => h) (Or.inl ⟨by rfl, ?_⟩) (by assumption) ?_
     rotate_left
     ·intro wq hSw; (try dsimp only at hSw); go_simp; (try with_reducible rfl)
     (try simp only [Act.put, List.setIfInBounds_toArray, List.set_cons_zero, List.set_cons_succ])
     refine wpAnyH_take (i := 10) (oi := ⟨some 165, _, _, _, _, _⟩) (v := ?_) rfl (by decide +kernel) (by decide +kernel) (by decide +kernel) (fun _ _ _ h => h) (Or.inl ⟨by rfl, ?_⟩) (by assumption) ?_
     rotate_left
     ·intro wq hSw; (try dsimp only at hSw); go_simp; (try with_reducible rfl)
     (try simp only [Act.put, List.setIfInBounds_toArray, List.set_cons_zero, List.set_cons_succ])
     refine wpAnyH_take (i := 11) (oi := ⟨some 166, _, _, _, _, _⟩) (v := ?_) rfl (by decide +kernel) (by decide +kernel) (by decide +kernel) (fun _ _ _ h => h) (Or.inl ⟨by rfl, ?_⟩) (by assumption) ?_
     rotate_left
     ·intro wq hSw; (try dsimp only at hSw); go_simp; (try with_reducible rfl)
     (try simp only [Act.put, List.setIfInBounds_toArray, List.set_cons_zero, List.set_cons_succ])
     refine wpAnyH_take (i := 12) (oi := ⟨some 167, _, _, _, _, _⟩) (v := ?_) rfl (by decide +kernel) (by decide +kernel) (by decide +kernel) (fun _ _ _ h => h) (Or.inl ⟨by rfl, ?_⟩) (by assumption) ?_
     rotate_left
     ·intro wq hSw; (try dsimp only at hSw); go_simp; (try with_reducible rfl)
     (try simp only [Act.put, List.setIfInBounds_toArray, List.set_cons_zero, List.set_cons_succ])
     refine wpAnyH_ready (rs := [13]) (by decide +kernel) (by simp) ?_
     refine AllReadyH.cons (i := 13) (o := ⟨some 168, _, _, _, _, _⟩) rfl (fun K hK => ?_) AllReadyH.nil
     go_simp
     go_at_call 35; refine Calls.mono (rcmp2_n (hzi.out.below kW) (hP.out.ha.below kW) (by omega) (by have := hP.out.ll; omega)) ?_; rintro e wkC ⟨rfl, kC⟩
     rw [hv1.out]
     have kW := grow_step kC kW
     try go_wp2_with fail
     refine hK.out _ _ ?_ ?_
     ·first | with_reducible exact trivial | ((try dsimp only); exact ⟨⟨(Below.cell (p := ⟨bl, _, none⟩) kW hbl).trans c0, (Below.cell (p := ⟨bl, _, none⟩) kW hbl).trans c1⟩, ⟨(hP.out.y6.below kW).c0, (hP.out.y6.below kW).c1⟩, ⟨(hP.out.y8.below kW).c0, (hP.out.y8.below kW).c1⟩⟩)
     clear hK K hHeld; intro hHeld
     (try simp only [Act.put, List.setIfInBounds_toArray, List.set_cons_zero, List.set_cons_succ])
     refine wpAnyH_take (i := 14) (oi := ⟨some 169, _, _, _, _, _⟩) (v := .bool false) rfl (by decide +kernel) (by decide +kernel) (by decide +kernel) (fun _ _ _ h => h) (Or.inl ⟨by rfl, ?_⟩) (by assumption) ?_
     skip
     ·intro wq hSw; (try dsimp only at hSw); go_simp; (first | done | rw [hd1] | simp [hd1] | exact hd1)
     (try simp only [Act.put, List.setIfInBounds_toArray, List.set_cons_zero, List.set_cons_succ])
     refine wpAnyH_take (i := 15) (oi := ⟨some 170, _, _, _, _, _⟩) (v := ?_) rfl (by decide +kernel) (by decide +kernel) (by decide +kernel) (fun _ _ _ h => h) (Or.inl ⟨by rfl, ?_⟩) (by assumption) ?_
     rotate_left
     ·intro wq hSw; (try dsimp only at hSw); go_simp; (try with_reducible rfl)
     (try simp only [Act.put, List.setIfInBounds_toArray, List.set_cons_zero, List.set_cons_succ])
     refine wpAnyH_take (i := 16) (oi := ⟨some 171, _, _, _, _, _⟩) (v := ?_) rfl (by decide +kernel) (by decide +kernel) (by decide +kernel) (fun _ _ _ h => h) (Or.inl ⟨by rfl, ?_⟩) (by assumption) ?_
     rotate_left
     ·intro wq hSw; (try dsimp only at hSw); go_simp; (try with_reducible rfl)
     (try simp only [Act.put, List.setIfInBounds_toArray, List.set_cons_zero, List.set_cons_succ])
     refine wpAnyH_take (i := 17) (oi := ⟨some 172, _, _, _, _, _⟩) (v := ?_) rfl (by decide +kernel) (by decide +kernel) (by decide +kernel) (fun _ _ _ h => h) (Or.inl ⟨by rfl, ?_⟩) (by assumption) ?_
     rotate_left
     ·intro wq hSw; (try dsimp only at hSw); go_simp; (try with_reducible rfl)
     (try simp only [Act.put, List.setIfInBounds_toArray, List.set_cons_zero, List.set_cons_succ])
     refine wpAnyH_take (i := 18) (oi := ⟨some 173, _, _, _, _, _⟩) (v := ?_) rfl (by decide +kernel) (by decide +kernel) (by decide +kernel) (fun _ _ _ h => h) (Or.inl ⟨by rfl, ?_⟩) (by assumption) ?_
     rotate_left
     ·intro wq hSw; (try dsimp only at hSw); go_simp; (try with_reducible rfl)
     (try simp only [Act.put, List.setIfInBounds_toArray, List.set_cons_zero, List.set_cons_succ])
     refine wpAnyH_take (i := 19) (oi := ⟨some 174, _, _, _, _, _⟩) (v := ?_) rfl (by decide +kernel) (by decide +kernel) (by decide +kernel) (fun _ _ _ h => h) (Or.inl ⟨by rfl, ?_⟩) (by assumption) ?_
     rotate_left
     ·intro wq hSw; (try dsimp only at hSw); go_simp; (try with_reducible rfl)
     (try simp only [Act.put, List.setIfInBounds_toArray, List.set_cons_zero, List.set_cons_succ])
     refine wpAnyH_take (i := 20) (oi := ⟨some 175, _, _, _, _, _⟩) (v := ?_) rfl (by decide +kernel) (by decide +kernel) (by decide +kernel) (fun _ _ _ h => h) (Or.inl ⟨by rfl, ?_⟩) (by assumption) ?_
     rotate_left
     ·intro wq hSw; (try dsimp only at hSw); go_simp; (try with_reducible rfl)
     (try simp only [Act.put, List.setIfInBounds_toArray, List.set_cons_zero, List.set_cons_succ])
     refine wpAnyH_take (i := 21) (oi := ⟨some 176, _, _, _, _, _⟩) (v := ?_) rfl (by decide +kernel) (by decide +kernel) (by decide +kernel) (fun _ _ _ h => h) (Or.inl ⟨by rfl, ?_⟩) (by assumption) ?_
     rotate_left
     ·intro wq hSw; (try dsimp only at hSw); go_simp; (try with_reducible rfl)
     (try simp only [Act.put, List.setIfInBounds_toArray, List.set_cons_zero, List.set_cons_succ])
     refine wpAnyH_ready (rs := [22]) (by decide +kernel) (by simp) ?_
     refine AllReadyH.cons (i := 22) (o := ⟨some 177, _, _, _, _, _⟩) rfl (fun K hK => ?_) AllReadyH.nil
     go_simp
     go_at_call 35; refine Calls.mono (rcmp2_n (hzi.out.below kW) (hP.out.hc.below kW) (by omega) (by have := hP.out.ll; omega)) ?_; rintro e wkD ⟨rfl, kD⟩
     rw [hv2.out]
     have kW := grow_step kD kW
     try go_wp2_with fail
     refine hK.out _ _ ?_ ?_
     ·first | with_reducible exact trivial | ((try dsimp only); exact ⟨⟨(Below.cell (p := ⟨bl, _, none⟩) kW hbl).trans c0, (Below.cell (p := ⟨bl, _, none⟩) kW hbl).trans c1⟩, ⟨(hP.out.y6.below kW).c0, (hP.out.y6.below kW).c1⟩, ⟨(hP.out.y8.below kW).c0, (hP.out.y8.below kW).c1⟩⟩)
     clear hK K hHeld; intro hHeld
     (try simp only [Act.put, List.setIfInBounds_toArray, List.set_cons_zero, List.set_cons_succ])
     refine wpAnyH_take (i := 23) (oi := ⟨some 178, _, _, _, _, _⟩) (v := .bool false) rfl (by decide +kernel) (by decide +kernel) (by decide +kernel) (fun _ _ _ h => h) (Or.inl ⟨by rfl, ?_⟩) (by assumption) ?_
     skip
     ·intro wq hSw; (try dsimp only at hSw); go_simp; (first | done | rw [hd2] | simp [hd2] | exact hd2)
     (try simp only [Act.put, List.setIfInBounds_toArray, List.set_cons_zero, List.set_cons_succ])
     refine wpAnyH_take (i := 24) (oi := ⟨some 179, _, _, _, _, _⟩) (v := ?_) rfl (by decide +kernel) (by decide +kernel) (by decide +kernel) (fun _ _ _ h => h) (Or.inl ⟨by rfl, ?_⟩) (by assumption) ?_
     rotate_left
     ·intro wq hSw; (try dsimp only at hSw); go_simp; (try with_reducible rfl)
     (try simp only [Act.put, List.setIfInBounds_toArray, List.set_cons_zero, List.set_cons_succ])
     refine wpAnyH_take (i := 25) (oi := ⟨some 180, _, _, _, _, _⟩) (v := ?_) rfl (by decide +kernel) (by decide +kernel) (by decide +kernel) (fun _ _ _ h => h) (Or.inl ⟨by rfl, ?_⟩) (by assumption) ?_
     rotate_left
     ·intro wq hSw; (try dsimp only at hSw); go_simp; (try with_reducible rfl)
     (try simp only [Act.put, List.setIfInBounds_toArray, List.set_cons_zero, List.set_cons_succ])
     refine wpAnyH_take (i := 26) (oi := ⟨some 181, _, _, _, _, _⟩) (v := ?_) rfl (by decide +kernel) (by decide +kernel) (by decide +kernel) (fun _ _ _ h => h) (Or.inl ⟨by rfl, ?_⟩) (by assumption) ?_
     rotate_left
     ·intro wq hSw; (try dsimp only at hSw); go_simp; (try with_reducible rfl)
     (try simp only [Act.put, List.setIfInBounds_toArray, List.set_cons_zero, List.set_cons_succ])
     refine wpAnyH_take (i := 27) (oi := ⟨some 182, _, _, _, _, _⟩) (v := .bool false) rfl (by decide +kernel) (by decide +kernel) (by decide +kernel) (fun _ _ _ h => h) (Or.inl ⟨by rfl, ?_⟩) (by assumption) ?_
     skip
     ·intro wq hSw; (try dsimp only at hSw); go_simp; (first | done | rw [hd0.out] | simp [hd0.out] | exact hd0.out)
     (try simp only [Act.put, List.setIfInBounds_toArray, List.set_cons_zero, List.set_cons_succ])
     refine wpAnyH_take (i := 28) (oi := ⟨some 183, _, _, _, _, _⟩) (v := ?_) rfl (by decide +kernel) (by decide +kernel) (by decide +kernel) (fun _ _ _ h => h) (Or.inl ⟨by rfl, ?_⟩) (by assumption) ?_
     rotate_left
     ·intro wq hSw; (try dsimp only at hSw); go_simp; (try with_reducible rfl)
     (try simp only [Act.put, List.setIfInBounds_toArray, List.set_cons_zero, List.set_cons_succ])
     refine wpAnyH_take (i := 29) (oi := ⟨some 184, _, _, _, _, _⟩) (v := undef) rfl (by decide +kernel) (by decide +kernel) (by decide +kernel) (fun _ _ _ h => h) (Or.inr ⟨by rfl, rfl⟩) (by assumption) ?_
     (try simp only [Act.put, List.setIfInBounds_toArray, List.set_cons_zero, List.set_cons_succ])
     refine wpAnyH_take (i := 30) (oi := ⟨some 185, _, _, _, _, _⟩) (v := undef) rfl (by decide +kernel) (by decide +kernel) (by decide +kernel) (fun _ _ _ h => h) (Or.inr ⟨by rfl, rfl⟩) (by assumption) ?_
     (try simp only [Act.put, List.setIfInBounds_toArray, List.set_cons_zero, List.set_cons_succ])
     refine wpAnyH_take (i := 31) (oi := ⟨some 186, _, _, _, _, _⟩) (v := undef) rfl (by decide +kernel) (by decide +kernel) (by decide +kernel) (fun _ _ _ h => h) (Or.inr ⟨by rfl, rfl⟩) (by assumption) ?_
     (try simp only [Act.put, List.setIfInBounds_toArray, List.set_cons_zero, List.set_cons_succ])
     refine wpAnyH_take (i := 32) (oi := ⟨some 187, _, _, _, _, _⟩) (v := undef) rfl (by decide +kernel) (by decide +kernel) (by decide +kernel) (fun _ _ _ h => h) (Or.inr ⟨by rfl, rfl⟩) (by assumption) ?_
     (try simp only [Act.put, List.setIfInBounds_toArray, List.set_cons_zero, List.set_cons_succ])
     refine wpAnyH_take (i := 33) (oi := ⟨some 188, _, _, _, _, _⟩) (v := undef) rfl (by decide +kernel) (by decide +kernel) (by decide +kernel) (fun _ _ _ h => h) (Or.inr ⟨by rfl, rfl⟩) (by assumption) ?_
     (try simp only [Act.put, List.setIfInBounds_toArray, List.set_cons_zero, List.set_cons_succ])
     refine wpAnyH_take (i := 34) (oi := ⟨some 189, _, _, _, _, _⟩) (v := undef) rfl (by decide +kernel) (by decide +kernel) (by decide +kernel) (fun _ _ _ h => h) (Or.inr ⟨by rfl, rfl⟩) (by assumption) ?_
     (try simp only [Act.put, List.setIfInBounds_toArray, List.set_cons_zero, List.set_cons_succ])
     refine wpAnyH_take (i := 35) (oi := ⟨some 190, _, _, _, _, _⟩) (v := undef) rfl (by decide +kernel) (by decide +kernel) (by decide +kernel) (fun _ _ _ h => h) (Or.inr ⟨by rfl, rfl⟩) (by assumption) ?_
     (try simp only [Act.put, List.setIfInBounds_toArray, List.set_cons_zero, List.set_cons_succ])
     refine wpAnyH_take (i := 36) (oi := ⟨some 191, _, _, _, _, _⟩) (v := undef) rfl (by decide +kernel) (by decide +kernel) (by decide +kernel) (fun _ _ _ h => h) (Or.inr ⟨by rfl, rfl⟩) (by assumption) ?_
     (try simp only [Act.put, List.setIfInBounds_toArray, List.set_cons_zero, List.set_cons_succ])
     refine wpAnyH_take (i := 37) (oi := ⟨some 192, _, _, _, _, _⟩) (v := undef) rfl (by decide +kernel) (by decide +kernel) (by decide +kernel) (fun _ _ _ h => h) (Or.inr ⟨by rfl, rfl⟩) (by assumption) ?_
     (try simp only [Act.put, List.setIfInBounds_toArray, List.set_cons_zero, List.set_cons_succ])
     refine wpAnyH_take (i := 38) (oi := ⟨some 193, _, _, _, _, _⟩) (v := undef) rfl (by decide +kernel) (by decide +kernel) (by decide +kernel) (fun _ _ _ h => h) (Or.inr ⟨by rfl, rfl⟩) (by assumption) ?_
     (try simp only [Act.put, List.setIfInBounds_toArray, List.set_cons_zero, List.set_cons_succ])
     refine wpAnyH_take (i := 39) (oi := ⟨some 194, _, _, _, _, _⟩) (v := undef) rfl (by decide +kernel) (by decide +kernel) (by decide +kernel) (fun _ _ _ h => h) (Or.inr ⟨by rfl, rfl⟩) (by assumption) ?_
     (try simp only [Act.put, List.setIfInBounds_toArray, List.set_cons_zero, List.set_cons_succ])
     refine wpAnyH_take (i := 40) (oi := ⟨some 195, _, _, _, _, _⟩) (v := ?_) rfl (by decide +kernel) (by decide +kernel) (by decide +kernel) (fun _ _ _ h => h) (Or.inl ⟨by rfl, ?_⟩) (by assumption) ?_
     rotate_left
     ·intro wq hSw; (try dsimp only at hSw); go_simp; (try with_reducible rfl)
     (try simp only [Act.put, List.setIfInBounds_toArray, List.set_cons_zero, List.set_cons_succ])
     refine wpAnyH_take (i := 41) (oi := ⟨some 196, _, _, _, _, _⟩) (v := ?_) rfl (by decide +kernel) (by decide +kernel) (by decide +kernel) (fun _ _ _ h => h) (Or.inl ⟨by rfl, ?_⟩) (by assumption) ?_
     rotate_left
     ·intro wq hSw; (try dsimp only at hSw); go_simp; (try with_reducible rfl)
     (try simp only [Act.put, List.setIfInBounds_toArray, List.set_cons_zero, List.set_cons_succ])
     refine wpAnyH_done ?_ ?_ _
     ·decide +kernel
     have kz := hide (grow_step kW kr.out)
     clear kW hHeld
     go_wp2_with fail
     exact ⟨⟨0 + 1, by omega, by go_num, kz.out⟩, by simp [intOf]; omega⟩
    ·obtain ⟨j, hji⟩ : ∃ j, i = j + 1 := ⟨i - 1, by omega⟩
     obtain ⟨_, _, zj, e9, -, d0, d1, hzj, hzjl⟩ := hsn.out.2 j (by omega) (by omega)
     cases e9
     replace d0 := (kr.cell (p := ⟨bl, _, none⟩) hbl0).trans d0
     replace d1 := (kr.cell (p := ⟨bl, _, none⟩) hbl0).trans d1
     replace hzj := hide (hzj.below kr)
     have hlt := hup.out j i (by omega) (by omega) (by omega)
     obtain ⟨v3, hv3⟩ : ∃ v3, cmpI (xs[j]'(by omega)) xs[i] = v3 := ⟨_, rfl⟩
     have hd3 : decide (0 ≤ v3) = false := by rw [decide_eq_false_iff_not, ← hv3]; unfold cmpI; split <;> (try split) <;> omega
     have hd0 : Hid (decide ((0 : Int) < (i : Int)) = true) := hide (by rw [decide_eq_true_iff]; omega)
     have hj1 : Hid ((i : Int) - 1 = (j : Int)) := hide (by omega)
     generalize xs[i]'(by omega) = v at *
     generalize xs[j]'(by omega) = u at *
     replace hmv := hide hmv
     replace hv1 := hide hv1
     replace hv2 := hide hv2
     replace hv3 := hide hv3
     have hjn : j < n := by omega
     have hjb : Hid (j + 1 = i) := hide hji.symm
     clear hji hi0
     replace kr := hide kr
     clear hv0 hv9 hup hin hsn hbl0 hlt
     as_aux_lemma =>
     go_upto_region 28 with (fail)
     refine wp_region_held_drew (S := (fun w' => (w'.cell? ⟨bl, off + i * 2, none⟩ = some (.bool zi.s) ∧ w'.cell? ⟨bl, off + i * 2 + 1, none⟩ = some (.slice zi.a zi.l zi.c)) ∧ (w'.cell? ⟨bl, off + j * 2, none⟩ = some (.bool zj.s) ∧ w'.cell? ⟨bl, off + j * 2 + 1, none⟩ = some (.slice zj.a zj.l zj.c)) ∧ (w'.cell? ⟨b6, 0, none⟩ = some (.bool za3.s) ∧ w'.cell? ⟨b6, 1, none⟩ = some (.slice za3.a za3.l za3.c)) ∧ (w'.cell? ⟨b8, 0, none⟩ = some (.bool zc2.s) ∧ w'.cell? ⟨b8, 1, none⟩ = some (.slice zc2.a zc2.l zc2.c)))) (by kernel_rfl) (⟨⟨(Below.cell (p := ⟨bl, _, none⟩) (grow_drew (Below.refl _ _)) hbl).trans c0, (Below.cell (p := ⟨bl, _, none⟩) (grow_drew (Below.refl _ _)) hbl).trans c1⟩, ⟨(Below.cell (p := ⟨bl, _, none⟩) (grow_drew (Below.refl _ _)) hbl).trans d0, (Below.cell (p := ⟨bl, _, none⟩) (grow_drew (Below.refl _ _)) hbl).trans d1⟩, ⟨(hP.out.y6.below (grow_drew (Below.refl _ _))).c0, (hP.out.y6.below (grow_drew (Below.refl _ _))).c1⟩, ⟨(hP.out.y8.below (grow_drew (Below.refl _ _))).c0, (hP.out.y8.below (grow_drew (Below.refl _ _))).c1⟩⟩) (fun hHeld => ?_)
     show wpAnyH _ _ _ _ _ 42 _ _ _
     have kW := grow_drew (Below.refl wr.heap.size wr)
     generalize wr.drew = wQ at *
     refine wpAnyH_take (i := 0) (oi := ⟨some 155, _, _, _, _, _⟩) (v := ?_) rfl (by decide +kernel) (by decide +kernel) (by decide +kernel) (fun _ _ _ h => h) (Or.inl ⟨by rfl, ?_⟩) (by assumption) ?_
     rotate_left
     ·intro wq hSw; (try dsimp only at hSw); go_simp; (try with_reducible rfl)
     (try simp only [Act.put, List.setIfInBounds_toArray, List.set_cons_zero, List.set_cons_succ])
     refine wpAnyH_take (i := 1) (oi := ⟨some 156, _, _, _, _, _⟩) (v := ?_) rfl (by decide +kernel) (by decide +kernel) (by decide +kernel) (fun _ _ _ h => h) (Or.inl ⟨by rfl, ?_⟩) (by assumption) ?_
     rotate_left
     ·intro wq hSw; (try dsimp only at hSw); go_simp; (try with_reducible rfl)
     (try simp only [Act.put, List.setIfInBounds_toArray, List.set_cons_zero, List.set_cons_succ])
     refine wpAnyH_take (i := 2) (oi := ⟨some 157, _, _, _, _, _⟩) (v := ?_) rfl (by decide +kernel) (by decide +kernel) (by decide +kernel) (fun _ _ _ h => h) (Or.inl ⟨by rfl, ?_⟩) (by assumption) ?_
     rotate_left
     ·intro wq hSw; (try dsimp only at hSw); go_simp; (try with_reducible rfl)
     (try simp only [Act.put, List.setIfInBounds_toArray, List.set_cons_zero, List.set_cons_succ])
     refine wpAnyH_take (i := 3) (oi := ⟨some 158, _, _, _, _, _⟩) (v := ?_) rfl (by decide +kernel) (by decide +kernel) (by decide +kernel) (fun _ _ _ h => h) (Or.inl ⟨by rfl, ?_⟩) (by assumption) ?_
     rotate_left
     ·intro wq hSw; (try dsimp only at hSw); go_simp; (try with_reducible rfl)
     (try simp only [Act.put, List.setIfInBounds_toArray, List.set_cons_zero, List.set_cons_succ])
     refine wpAnyH_take (i := 4) (oi := ⟨some 159, _, _, _, _, _⟩) (v := ?_) rfl (by decide +kernel) (by decide +kernel) (by decide +kernel) (fun _ _ _ h => h) (Or.inl ⟨by rfl, ?_⟩) (by assumption) ?_
     rotate_left
     ·intro wq hSw; (try dsimp only at hSw); go_simp; (try with_reducible rfl)
     (try simp only [Act.put, List.setIfInBounds_toArray, List.set_cons_zero, List.set_cons_succ])
     refine wpAnyH_ready (rs := [5]) (by decide +kernel) (by simp) ?_
     refine AllReadyH.cons (i := 5) (o := ⟨some 160, _, _, _, _, _⟩) rfl (fun K hK => ?_) AllReadyH.nil
     go_simp
     go_at_call 40; refine Calls.mono (sHas_n (y := zi) (hP.out.ps.below kW) (by omega) (hzi.out.below kW) (by omega)) ?_; rintro e wkB ⟨rfl, kB⟩
     rw [hmv.out]
     have kW := grow_step kB kW
     try go_wp2_with fail
     refine hK.out _ _ ?_ ?_
     ·first | with_reducible exact trivial | ((try dsimp only); exact ⟨⟨(Below.cell (p := ⟨bl, _, none⟩) kW hbl).trans c0, (Below.cell (p := ⟨bl, _, none⟩) kW hbl).trans c1⟩, ⟨(Below.cell (p := ⟨bl, _, none⟩) kW hbl).trans d0, (Below.cell (p := ⟨bl, _, none⟩) kW hbl).trans d1⟩, ⟨(hP.out.y6.below kW).c0, (hP.out.y6.below kW).c1⟩, ⟨(hP.out.y8.below kW).c0, (hP.out.y8.below kW).c1⟩⟩)
     clear hK K hHeld; intro hHeld
     (try simp only [Act.put, List.setIfInBounds_toArray, List.set_cons_zero, List.set_cons_succ])
     refine wpAnyH_take (i := 6) (oi := ⟨some 161, _, _, _, _, _⟩) (v := ?_) rfl (by decide +kernel) (by decide +kernel) (by decide +kernel) (fun _ _ _ h => h) (Or.inl ⟨by rfl, ?_⟩) (by assumption) ?_
     rotate_left
     ·intro wq hSw; (try dsimp only at hSw); go_simp; (try with_reducible rfl)
     (try simp only [Act.put, List.setIfInBounds_toArray, List.set_cons_zero, List.set_cons_succ])
     refine wpAnyH_take (i := 7) (oi := ⟨some 162, _, _, _, _, _⟩) (v := ?_) rfl (by decide +kernel) (by decide +kernel) (by decide +kernel) (fun _ _ _ h => h) (Or.inl ⟨by rfl, ?_⟩) (by assumption) ?_
     rotate_left
     ·intro wq hSw; (try dsimp only at hSw); go_simp; (try with_reducible rfl)
     (try simp only [Act.put, List.setIfInBounds_toArray, List.set_cons_zero, List.set_cons_succ])
     refine wpAnyH_take (i := 8) (oi := ⟨some 163, _, _, _, _, _⟩) (v := ?_) rfl (by decide +kernel) (by decide +kernel) (by decide +kernel) (fun _ _ _ h => h) (Or.inl ⟨by rfl, ?_⟩) (by assumption) ?_
     rotate_left
     ·intro wq hSw; (try dsimp only at hSw); go_simp; (try with_reducible rfl)
     (try simp only [Act.put, List.setIfInBounds_toArray, List.set_cons_zero, List.set_cons_succ])
     refine wpAnyH_take (i := 9) (oi := ⟨some 164, _, _, _, _, _⟩) (v := ?_) rfl (by decide +kernel) (by decide +kernel) (by decide +kernel) (fun _ _ _ h => h) (Or.inl ⟨by rfl, ?_⟩) (by assumption) ?_
     rotate_left
     ·intro wq hSw; (try dsimp only at hSw); go_simp; (try with_reducible rfl)
     (try simp only [Act.put, List.setIfInBounds_toArray, List.set_cons_zero, List.set_cons_succ])
     refine wpAnyH_take (i := 10) (oi := ⟨some 165, _, _, _, _, _⟩) (v := ?_) rfl (by decide +kernel) (by decide +kernel) (by decide +kernel) (fun _ _ _ h => h) (Or.inl ⟨by rfl, ?_⟩) (by assumption) ?_
     rotate_left
     ·intro wq hSw; (try dsimp only at hSw); go_simp; (try with_reducible rfl)
     (try simp only [Act.put, List.setIfInBounds_toArray, List.set_cons_zero, List.set_cons_succ])
     refine wpAnyH_take (i := 11) (oi := ⟨some 166, _, _, _, _, _⟩) (v := ?_) rfl (by decide +kernel) (by decide +kernel) (by decide +kernel) (fun _ _ _ h => h) (Or.inl ⟨by rfl, ?_⟩) (by assumption) ?_
     rotate_left
     ·intro wq hSw; (try dsimp only at hSw); go_simp; (try with_reducible rfl)
     (try simp only [Act.put, List.setIfInBounds_toArray, List.set_cons_zero, List.set_cons_succ])
     refine wpAnyH_take (i := 12) (oi := ⟨some 167, _, _, _, _, _⟩) (v := ?_) rfl (by decide +kernel) (by decide +kernel) (by decide +kernel) (fun _ _ _ h => h) (Or.inl ⟨by rfl, ?_⟩) (by assumption) ?_
     rotate_left
     ·intro wq hSw; (try dsimp only at hSw); go_simp; (try with_reducible rfl)
     (try simp only [Act.put, List.setIfInBounds_toArray, List.set_cons_zero, List.set_cons_succ])
     refine wpAnyH_ready (rs := [13]) (by decide +kernel) (by simp) ?_
     refine AllReadyH.cons (i := 13) (o := ⟨some 168, _, _, _, _, _⟩) rfl (fun K hK => ?_) AllReadyH.nil
     go_simp
     go_at_call 35; refine Calls.mono (rcmp2_n (hzi.out.below kW) (hP.out.ha.below kW) (by omega) (by have := hP.out.ll; omega)) ?_; rintro e wkC ⟨rfl, kC⟩
     rw [hv1.out]
     have kW := grow_step kC kW
     try go_wp2_with fail
     refine hK.out _ _ ?_ ?_
     ·first | with_reducible exact trivial | ((try dsimp only); exact ⟨⟨(Below.cell (p := ⟨bl, _, none⟩) kW hbl).trans c0, (Below.cell (p := ⟨bl, _, none⟩) kW hbl).trans c1⟩, ⟨(Below.cell (p := ⟨bl, _, none⟩) kW hbl).trans d0, (Below.cell (p := ⟨bl, _, none⟩) kW hbl).trans d1⟩, ⟨(hP.out.y6.below kW).c0, (hP.out.y6.below kW).c1⟩, ⟨(hP.out.y8.below kW).c0, (hP.out.y8.below kW).c1⟩⟩)
     clear hK K hHeld; intro hHeld
     (try simp only [Act.put, List.setIfInBounds_toArray, List.set_cons_zero, List.set_cons_succ])
     refine wpAnyH_take (i := 14) (oi := ⟨some 169, _, _, _, _, _⟩) (v := .bool false) rfl (by decide +kernel) (by decide +kernel) (by decide +kernel) (fun _ _ _ h => h) (Or.inl ⟨by rfl, ?_⟩) (by assumption) ?_
     skip
     ·intro wq hSw; (try dsimp only at hSw); go_simp; (first | done | rw [hd1] | simp [hd1] | exact hd1)
     (try simp only [Act.put, List.setIfInBounds_toArray, List.set_cons_zero, List.set_cons_succ])
     refine wpAnyH_take (i := 15) (oi := ⟨some 170, _, _, _, _, _⟩) (v := ?_) rfl (by decide +kernel) (by decide +kernel) (by decide +kernel) (fun _ _ _ h => h) (Or.inl ⟨by rfl, ?_⟩) (by assumption) ?_
     rotate_left
     ·intro wq hSw; (try dsimp only at hSw); go_simp; (try with_reducible rfl)
     (try simp only [Act.put, List.setIfInBounds_toArray, List.set_cons_zero, List.set_cons_succ])
     refine wpAnyH_take (i := 16) (oi := ⟨some 171, _, _, _, _, _⟩) (v := ?_) rfl (by decide +kernel) (by decide +kernel) (by decide +kernel) (fun _ _ _ h => h) (Or.inl ⟨by rfl, ?_⟩) (by assumption) ?_
     rotate_left
     ·intro wq hSw; (try dsimp only at hSw); go_simp; (try with_reducible rfl)
     (try simp only [Act.put, List.setIfInBounds_toArray, List.set_cons_zero, List.set_cons_succ])
     refine wpAnyH_take (i := 17) (oi := ⟨some 172, _, _, _, _, _⟩) (v := ?_) rfl (by decide +kernel) (by decide +kernel) (by decide +kernel) (fun _ _ _ h => h) (Or.inl ⟨by rfl, ?_⟩) (by assumption) ?_
     rotate_left
     ·intro wq hSw; (try dsimp only at hSw); go_simp; (try with_reducible rfl)
     (try simp only [Act.put, List.setIfInBounds_toArray, List.set_cons_zero, List.set_cons_succ])
     refine wpAnyH_take (i := 18) (oi := ⟨some 173, _, _, _, _, _⟩) (v := ?_) rfl (by decide +kernel) (by decide +kernel) (by decide +kernel) (fun _ _ _ h => h) (Or.inl ⟨by rfl, ?_⟩) (by assumption) ?_
     rotate_left
     ·intro wq hSw; (try dsimp only at hSw); go_simp; (try with_reducible rfl)
     (try simp only [Act.put, List.setIfInBounds_toArray, List.set_cons_zero, List.set_cons_succ])
     refine wpAnyH_take (i := 19) (oi := ⟨some 174, _, _, _, _, _⟩) (v := ?_) rfl (by decide +kernel) (by decide +kernel) (by decide +kernel) (fun _ _ _ h => h) (Or.inl ⟨by rfl, ?_⟩) (by assumption) ?_
     rotate_left
     ·intro wq hSw; (try dsimp only at hSw); go_simp; (try with_reducible rfl)
     (try simp only [Act.put, List.setIfInBounds_toArray, List.set_cons_zero, List.set_cons_succ])
     refine wpAnyH_take (i := 20) (oi := ⟨some 175, _, _, _, _, _⟩) (v := ?_) rfl (by decide +kernel) (by decide +kernel) (by decide +kernel) (fun _ _ _ h => h) (Or.inl ⟨by rfl, ?_⟩) (by assumption) ?_
     rotate_left
     ·intro wq hSw; (try dsimp only at hSw); go_simp; (try with_reducible rfl)
     (try simp only [Act.put, List.setIfInBounds_toArray, List.set_cons_zero, List.set_cons_succ])
     refine wpAnyH_take (i := 21) (oi := ⟨some 176, _, _, _, _, _⟩) (v := ?_) rfl (by decide +kernel) (by decide +kernel) (by decide +kernel) (fun _ _ _ h => h) (Or.inl ⟨by rfl, ?_⟩) (by assumption) ?_
     rotate_left
     ·intro wq hSw; (try dsimp only at hSw); go_simp; (try with_reducible rfl)
     (try simp only [Act.put, List.setIfInBounds_toArray, List.set_cons_zero, List.set_cons_succ])
     refine wpAnyH_ready (rs := [22]) (by decide +kernel) (by simp) ?_
     refine AllReadyH.cons (i := 22) (o := ⟨some 177, _, _, _, _, _⟩) rfl (fun K hK => ?_) AllReadyH.nil
     go_simp
     go_at_call 35; refine Calls.mono (rcmp2_n (hzi.out.below kW) (hP.out.hc.below kW) (by omega) (by have := hP.out.ll; omega)) ?_; rintro e wkD ⟨rfl, kD⟩
     rw [hv2.out]
     have kW := grow_step kD kW
     try go_wp2_with fail
     refine hK.out _ _ ?_ ?_
     ·first | with_reducible exact trivial | ((try dsimp only); exact ⟨⟨(Below.cell (p := ⟨bl, _, none⟩) kW hbl).trans c0, (Below.cell (p := ⟨bl, _, none⟩) kW hbl).trans c1⟩, ⟨(Below.cell (p := ⟨bl, _, none⟩) kW hbl).trans d0, (Below.cell (p := ⟨bl, _, none⟩) kW hbl).trans d1⟩, ⟨(hP.out.y6.below kW).c0, (hP.out.y6.below kW).c1⟩, ⟨(hP.out.y8.below kW).c0, (hP.out.y8.below kW).c1⟩⟩)
     clear hK K hHeld; intro hHeld
     (try simp only [Act.put, List.setIfInBounds_toArray, List.set_cons_zero, List.set_cons_succ])
     refine wpAnyH_take (i := 23) (oi := ⟨some 178, _, _, _, _, _⟩) (v := .bool false) rfl (by decide +kernel) (by decide +kernel) (by decide +kernel) (fun _ _ _ h => h) (Or.inl ⟨by rfl, ?_⟩) (by assumption) ?_
     skip
     ·intro wq hSw; (try dsimp only at hSw); go_simp; (first | done | rw [hd2] | simp [hd2] | exact hd2)
     (try simp only [Act.put, List.setIfInBounds_toArray, List.set_cons_zero, List.set_cons_succ])
     refine wpAnyH_take (i := 24) (oi := ⟨some 179, _, _, _, _, _⟩) (v := ?_) rfl (by decide +kernel) (by decide +kernel) (by decide +kernel) (fun _ _ _ h => h) (Or.inl ⟨by rfl, ?_⟩) (by assumption) ?_
     rotate_left
     ·intro wq hSw; (try dsimp only at hSw); go_simp; (try with_reducible rfl)
     (try simp only [Act.put, List.setIfInBounds_toArray, List.set_cons_zero, List.set_cons_succ])
     refine wpAnyH_take (i := 25) (oi := ⟨some 180, _, _, _, _, _⟩) (v := ?_) rfl (by decide +kernel) (by decide +kernel) (by decide +kernel) (fun _ _ _ h => h) (Or.inl ⟨by rfl, ?_⟩) (by assumption) ?_
     rotate_left
     ·intro wq hSw; (try dsimp only at hSw); go_simp; (try with_reducible rfl)
     (try simp only [Act.put, List.setIfInBounds_toArray, List.set_cons_zero, List.set_cons_succ])
     refine wpAnyH_take (i := 26) (oi := ⟨some 181, _, _, _, _, _⟩) (v := ?_) rfl (by decide +kernel) (by decide +kernel) (by decide +kernel) (fun _ _ _ h => h) (Or.inl ⟨by rfl, ?_⟩) (by assumption) ?_
     rotate_left
     ·intro wq hSw; (try dsimp only at hSw); go_simp; (try with_reducible rfl)
     (try simp only [Act.put, List.setIfInBounds_toArray, List.set_cons_zero, List.set_cons_succ])
     refine wpAnyH_take (i := 27) (oi := ⟨some 182, _, _, _, _, _⟩) (v := .bool true) rfl (by decide +kernel) (by decide +kernel) (by decide +kernel) (fun _ _ _ h => h) (Or.inl ⟨by rfl, ?_⟩) (by assumption) ?_
     skip
     ·intro wq hSw; (try dsimp only at hSw); go_simp; (first | done | (have := hjb.out; omega) | rw [hd0.out] | simp [hd0.out] | exact hd0.out)
     (try simp only [Act.put, List.setIfInBounds_toArray, List.set_cons_zero, List.set_cons_succ])
     refine wpAnyH_take (i := 28) (oi := ⟨some 183, _, _, _, _, _⟩) (v := ?_) rfl (by decide +kernel) (by decide +kernel) (by decide +kernel) (fun _ _ _ h => h) (Or.inl ⟨by rfl, ?_⟩) (by assumption) ?_
     rotate_left
     ·intro wq hSw; (try dsimp only at hSw); go_simp; (try with_reducible rfl)
     (try simp only [Act.put, List.setIfInBounds_toArray, List.set_cons_zero, List.set_cons_succ])
     refine wpAnyH_take (i := 29) (oi := ⟨some 184, _, _, _, _, _⟩) (v := ?_) rfl (by decide +kernel) (by decide +kernel) (by decide +kernel) (fun _ _ _ h => h) (Or.inl ⟨by rfl, ?_⟩) (by assumption) ?_
     rotate_left
     ·intro wq hSw; (try dsimp only at hSw); go_simp; (try with_reducible rfl)
     (try simp only [Act.put, List.setIfInBounds_toArray, List.set_cons_zero, List.set_cons_succ])
     refine wpAnyH_take (i := 30) (oi := ⟨some 185, _, _, _, _, _⟩) (v := ?_) rfl (by decide +kernel) (by decide +kernel) (by decide +kernel) (fun _ _ _ h => h) (Or.inl ⟨by rfl, ?_⟩) (by assumption) ?_
     rotate_left
     ·intro wq hSw; (try dsimp only at hSw); go_simp; (try with_reducible rfl)
     (try simp only [Act.put, List.setIfInBounds_toArray, List.set_cons_zero, List.set_cons_succ])
     refine wpAnyH_take (i := 31) (oi := ⟨some 186, _, _, _, _, _⟩) (v := .int .i64 (j : Int)) rfl (by decide +kernel) (by decide +kernel) (by decide +kernel) (fun _ _ _ h => h) (Or.inl ⟨by rfl, ?_⟩) (by assumption) ?_
     skip
     ·intro wq hSw; (try dsimp only at hSw); go_simp; (first | done | (rw [hj1.out, IntKind.wrap_i64]; omega) | (rw [IntKind.wrap_i64]; have := hj1.out; omega))
     (try simp only [Act.put, List.setIfInBounds_toArray, List.set_cons_zero, List.set_cons_succ])
     refine wpAnyH_take (i := 32) (oi := ⟨some 187, _, _, _, _, _⟩) (v := ?_) rfl (by decide +kernel) (by decide +kernel) (by decide +kernel) (fun _ _ _ h => h) (Or.inl ⟨by rfl, ?_⟩) (by assumption) ?_
     rotate_left
     ·intro wq hSw; (try dsimp only at hSw); go_simp; (try with_reducible rfl)
     (try simp only [Act.put, List.setIfInBounds_toArray, List.set_cons_zero, List.set_cons_succ])
     refine wpAnyH_take (i := 33) (oi := ⟨some 188, _, _, _, _, _⟩) (v := ?_) rfl (by decide +kernel) (by decide +kernel) (by decide +kernel) (fun _ _ _ h => h) (Or.inl ⟨by rfl, ?_⟩) (by assumption) ?_
     rotate_left
     ·intro wq hSw; (try dsimp only at hSw); go_simp; (try with_reducible rfl)
     (try simp only [Act.put, List.setIfInBounds_toArray, List.set_cons_zero, List.set_cons_succ])
     refine wpAnyH_take (i := 34) (oi := ⟨some 189, _, _, _, _, _⟩) (v := ?_) rfl (by decide +kernel) (by decide +kernel) (by decide +kernel) (fun _ _ _ h => h) (Or.inl ⟨by rfl, ?_⟩) (by assumption) ?_
     rotate_left
     ·intro wq hSw; (try dsimp only at hSw); go_simp; (try with_reducible rfl)
     (try simp only [Act.put, List.setIfInBounds_toArray, List.set_cons_zero, List.set_cons_succ])
     refine wpAnyH_take (i := 35) (oi := ⟨some 190, _, _, _, _, _⟩) (v := ?_) rfl (by decide +kernel) (by decide +kernel) (by decide +kernel) (fun _ _ _ h => h) (Or.inl ⟨by rfl, ?_⟩) (by assumption) ?_
     rotate_left
     ·intro wq hSw; (try dsimp only at hSw); go_simp; (try with_reducible rfl)
     (try simp only [Act.put, List.setIfInBounds_toArray, List.set_cons_zero, List.set_cons_succ])
     refine wpAnyH_take (i := 36) (oi := ⟨some 191, _, _, _, _, _⟩) (v := ?_) rfl (by decide +kernel) (by decide +kernel) (by decide +kernel) (fun _ _ _ h => h) (Or.inl ⟨by rfl, ?_⟩) (by assumption) ?_
     rotate_left
     ·intro wq hSw; (try dsimp only at hSw); go_simp; (try with_reducible rfl)
     (try simp only [Act.put, List.setIfInBounds_toArray, List.set_cons_zero, List.set_cons_succ])
     refine wpAnyH_take (i := 37) (oi := ⟨some 192, _, _, _, _, _⟩) (v := ?_) rfl (by decide +kernel) (by decide +kernel) (by decide +kernel) (fun _ _ _ h => h) (Or.inl ⟨by rfl, ?_⟩) (by assumption) ?_
     rotate_left
     ·intro wq hSw; (try dsimp only at hSw); go_simp; (try with_reducible rfl)
     (try simp only [Act.put, List.setIfInBounds_toArray, List.set_cons_zero, List.set_cons_succ])
     refine wpAnyH_ready (rs := [38]) (by decide +kernel) (by simp) ?_
     refine AllReadyH.cons (i := 38) (o := ⟨some 193, _, _, _, _, _⟩) rfl (fun K hK => ?_) AllReadyH.nil
     go_simp
     go_at_call 35; refine Calls.mono (rcmp2_n (hzj.out.below kW) (hzi.out.below kW) (by omega) (by omega)) ?_; rintro e wkE ⟨rfl, kE⟩
     rw [hv3.out]
     have kW := grow_step kE kW
     try go_wp2_with fail
     refine hK.out _ _ ?_ ?_
     ·first | with_reducible exact trivial | ((try dsimp only); exact ⟨⟨(Below.cell (p := ⟨bl, _, none⟩) kW hbl).trans c0, (Below.cell (p := ⟨bl, _, none⟩) kW hbl).trans c1⟩, ⟨(Below.cell (p := ⟨bl, _, none⟩) kW hbl).trans d0, (Below.cell (p := ⟨bl, _, none⟩) kW hbl).trans d1⟩, ⟨(hP.out.y6.below kW).c0, (hP.out.y6.below kW).c1⟩, ⟨(hP.out.y8.below kW).c0, (hP.out.y8.below kW).c1⟩⟩)
     clear hK K hHeld; intro hHeld
     (try simp only [Act.put, List.setIfInBounds_toArray, List.set_cons_zero, List.set_cons_succ])
     refine wpAnyH_take (i := 39) (oi := ⟨some 194, _, _, _, _, _⟩) (v := .bool false) rfl (by decide +kernel) (by decide +kernel) (by decide +kernel) (fun _ _ _ h => h) (Or.inl ⟨by rfl, ?_⟩) (by assumption) ?_
     skip
     ·intro wq hSw; (try dsimp only at hSw); go_simp; (first | done | rw [hd3] | simp [hd3] | exact hd3)
     (try simp only [Act.put, List.setIfInBounds_toArray, List.set_cons_zero, List.set_cons_succ])
     refine wpAnyH_take (i := 40) (oi := ⟨some 195, _, _, _, _, _⟩) (v := ?_) rfl (by decide +kernel) (by decide +kernel) (by decide +kernel) (fun _ _ _ h => h) (Or.inl ⟨by rfl, ?_⟩) (by assumption) ?_
     rotate_left
     ·intro wq hSw; (try dsimp only at hSw); go_simp; (try with_reducible rfl)
     (try simp only [Act.put, List.setIfInBounds_toArray, List.set_cons_zero, List.set_cons_succ])
     refine wpAnyH_take (i := 41) (oi := ⟨some 196, _, _, _, _, _⟩) (v := ?_) rfl (by decide +kernel) (by decide +kernel) (by decide +kernel) (fun _ _ _ h => h) (Or.inl ⟨by rfl, ?_⟩) (by assumption) ?_
     rotate_left
     ·intro wq hSw; (try dsimp only at hSw); go_simp; (try with_reducible rfl)
     (try simp only [Act.put, List.setIfInBounds_toArray, List.set_cons_zero, List.set_cons_succ])
     refine wpAnyH_done ?_ ?_ _
     ·decide +kernel
     have kz := hide (grow_step kW kr.out)
     clear kW hHeld
     go_wp2_with fail
     exact ⟨⟨i + 1, by omega, by go_num, kz.out⟩, by simp [intOf]; omega⟩
   ·obtain rfl : n = i := by omega
    clear hup hin hsn
    as_aux_lemma =>
    go_upto_region 30 with (fail)
    refine wp_region_held_drew (S := (fun w' => (w'.cell? ⟨b16, 0, none⟩ = some (.bool zk3.s) ∧ w'.cell? ⟨b16, 1, none⟩ = some (.slice zk3.a zk3.l zk3.c)))) (by kernel_rfl) (⟨(y16.out.below (grow_drew (Below.refl _ _))).c0, (y16.out.below (grow_drew (Below.refl _ _))).c1⟩) (fun hHeld => ?_)
    show wpAnyH _ _ _ _ _ 6 _ _ _
    have kW := grow_drew (Below.refl wr.heap.size wr)
    generalize wr.drew = wQ at *
    refine wpAnyH_take (i := 0) (oi := ⟨some 197, _, _, _, _, _⟩) (v := ?_) rfl (by decide +kernel) (by decide +kernel) (by decide +kernel) (fun _ _ _ h => h) (Or.inl ⟨by rfl, ?_⟩) (by assumption) ?_
    rotate_left
    ·intro wq hSw; (try dsimp only at hSw); go_simp; (try with_reducible rfl)
    (try simp only [Act.put, List.setIfInBounds_toArray, List.set_cons_zero, List.set_cons_succ])
    refine wpAnyH_take (i := 1) (oi := ⟨some 198, _, _, _, _, _⟩) (v := ?_) rfl (by decide +kernel) (by decide +kernel) (by decide +kernel) (fun _ _ _ h => h) (Or.inl ⟨by rfl, ?_⟩) (by assumption) ?_
    rotate_left
    ·intro wq hSw; (try dsimp only at hSw); go_simp; (try with_reducible rfl)
    (try simp only [Act.put, List.setIfInBounds_toArray, List.set_cons_zero, List.set_cons_succ])
    refine wpAnyH_take (i := 3) (oi := ⟨some 200, _, _, _, _, _⟩) (v := ?_) rfl (by decide +kernel) (by decide +kernel) (by decide +kernel) (fun _ _ _ h => h) (Or.inl ⟨by rfl, ?_⟩) (by assumption) ?_
    rotate_left
    ·intro wq hSw; (try dsimp only at hSw); go_simp; (try with_reducible rfl)
    (try simp only [Act.put, List.setIfInBounds_toArray, List.set_cons_zero, List.set_cons_succ])
    refine wpAnyH_ready (rs := [2]) (by decide +kernel) (by simp) ?_
    refine AllReadyH.cons (i := 2) (o := ⟨some 199, _, _, _, _, _⟩) rfl (fun K hK => ?_) AllReadyH.nil
    go_simp
    go_at_call 36; refine Calls.mono (num_n (n : Int) (by omega) (by omega) _) ?_; rintro e wkn ⟨zn, rfl, znh, kn, znl⟩
    have kW := grow_step kn kW
    try go_wp2_with fail
    refine hK.out _ _ ?_ ?_
    ·first | with_reducible exact trivial | ((try dsimp only); exact ⟨(y16.out.below kW).c0, (y16.out.below kW).c1⟩)
    clear hK K hHeld; intro hHeld
    (try simp only [Act.put, List.setIfInBounds_toArray, List.set_cons_zero, List.set_cons_succ])
    refine wpAnyH_ready (rs := [4]) (by decide +kernel) (by simp) ?_
    refine AllReadyH.cons (i := 4) (o := ⟨some 201, _, _, _, _, _⟩) rfl (fun K hK => ?_) AllReadyH.nil
    go_simp
    go_at_call 23; refine Calls.mono (ints19_zn (z := zn) (y := zk3) znh (hk3.out.below kW)) ?_; rintro e wkE ⟨rfl, kE⟩
    have kW := grow_step kE kW
    try go_wp2_with fail
    refine hK.out _ _ ?_ ?_
    ·first | with_reducible exact trivial | ((try dsimp only); exact ⟨(y16.out.below kW).c0, (y16.out.below kW).c1⟩)
    clear hK K hHeld; intro hHeld
    (try simp only [Act.put, List.setIfInBounds_toArray, List.set_cons_zero, List.set_cons_succ])
    refine wpAnyH_take (i := 5) (oi := ⟨some 4, _, _, _, _, _⟩) (v := ?_) rfl (by decide +kernel) (by decide +kernel) (by decide +kernel) (fun _ _ _ h => h) (Or.inl ⟨by rfl, ?_⟩) (by assumption) ?_
    rotate_left
    ·intro wq hSw; (try dsimp only at hSw); go_simp; (try with_reducible rfl)
    (try simp only [Act.put, List.setIfInBounds_toArray, List.set_cons_zero, List.set_cons_succ])
    refine wpAnyH_done ?_ ?_ _
    ·decide +kernel
    have kz := hide (grow_step kW kw2.out)
    clear kW hHeld
    go_wp2
    exact bodyPost_ret (results_tmp rfl _ _ _) rfl ⟨rfl, kz.out⟩
 ·have hv1 : Hid (cmpI ((cntI (mem D) x3 z2 : Nat) : Int) 1000 = 1) := hide (by unfold cmpI; split <;> (try split) <;> omega)
  as_aux_lemma =>
  go_upto_region 24 with (fail)
  refine wp_region_held_drew (S := (fun w' => (w'.cell? ⟨b16, 0, none⟩ = some (.bool zk3.s) ∧ w'.cell? ⟨b16, 1, none⟩ = some (.slice zk3.a zk3.l zk3.c)))) (by kernel_rfl) (⟨(y16.out.below (grow_drew (Below.refl _ _))).c0, (y16.out.below (grow_drew (Below.refl _ _))).c1⟩) (fun hHeld => ?_)
  show wpAnyH _ _ _ _ _ 9 _ _ _
  have kW := grow_drew (Below.refl wM.heap.size wM)
  generalize wM.drew = wQ at *
  refine wpAnyH_take (i := 0) (oi := ⟨some 141, _, _, _, _, _⟩) (v := ?_) rfl (by decide +kernel) (by decide +kernel) (by decide +kernel) (fun _ _ _ h => h) (Or.inl ⟨by rfl, ?_⟩) (by assumption) ?_
  rotate_left
  ·intro wq hSw; (try dsimp only at hSw); go_simp; (try with_reducible rfl)
  (try simp only [Act.put, List.setIfInBounds_toArray, List.set_cons_zero, List.set_cons_succ])
  refine wpAnyH_take (i := 1) (oi := ⟨some 142, _, _, _, _, _⟩) (v := ?_) rfl (by decide +kernel) (by decide +kernel) (by decide +kernel) (fun _ _ _ h => h) (Or.inl ⟨by rfl, ?_⟩) (by assumption) ?_
  rotate_left
  ·intro wq hSw; (try dsimp only at hSw); go_simp; (try with_reducible rfl)
  (try simp only [Act.put, List.setIfInBounds_toArray, List.set_cons_zero, List.set_cons_succ])
  refine wpAnyH_take (i := 2) (oi := ⟨some 143, _, _, _, _, _⟩) (v := ?_) rfl (by decide +kernel) (by decide +kernel) (by decide +kernel) (fun _ _ _ h => h) (Or.inl ⟨by rfl, ?_⟩) (by assumption) ?_
  rotate_left
  ·intro wq hSw; (try dsimp only at hSw); go_simp; (try with_reducible rfl)
  (try simp only [Act.put, List.setIfInBounds_toArray, List.set_cons_zero, List.set_cons_succ])
  refine wpAnyH_take (i := 3) (oi := ⟨some 144, _, _, _, _, _⟩) (v := ?_) rfl (by decide +kernel) (by decide +kernel) (by decide +kernel) (fun _ _ _ h => h) (Or.inl ⟨by rfl, ?_⟩) (by assumption) ?_
  rotate_left
  ·intro wq hSw; (try dsimp only at hSw); go_simp; (try with_reducible rfl)
  (try simp only [Act.put, List.setIfInBounds_toArray, List.set_cons_zero, List.set_cons_succ])
  refine wpAnyH_ready (rs := [4]) (by decide +kernel) (by simp) ?_
  refine AllReadyH.cons (i := 4) (o := ⟨some 145, _, _, _, _, _⟩) rfl (fun K hK => ?_) AllReadyH.nil
  go_simp
  go_at_call 36; refine Calls.mono (num_n (1000) (by decide) (by decide) _) ?_; rintro e wkz4 ⟨z4, rfl, z4h, kz4, z4l⟩
  have kW := grow_step kz4 kW
  try go_wp2_with fail
  refine hK.out _ _ ?_ ?_
  ·first | with_reducible exact trivial | ((try dsimp only); exact ⟨(y16.out.below kW).c0, (y16.out.below kW).c1⟩)
  clear hK K hHeld; intro hHeld
  (try simp only [Act.put, List.setIfInBounds_toArray, List.set_cons_zero, List.set_cons_succ])
  refine wpAnyH_ready (rs := [5]) (by decide +kernel) (by simp) ?_
  refine AllReadyH.cons (i := 5) (o := ⟨some 146, _, _, _, _, _⟩) rfl (fun K hK => ?_) AllReadyH.nil
  go_simp
  go_at_call 35; refine Calls.mono (rcmp2_n (hk3.out.below kW).zm z4h.zm (by omega) (by omega)) ?_; rintro e wkC ⟨rfl, kC⟩
  rw [hv1.out]
  have kW := grow_step kC kW
  try go_wp2_with fail
  refine hK.out _ _ ?_ ?_
  ·first | with_reducible exact trivial | ((try dsimp only); exact ⟨(y16.out.below kW).c0, (y16.out.below kW).c1⟩)
  clear hK K hHeld; intro hHeld
  (try simp only [Act.put, List.setIfInBounds_toArray, List.set_cons_zero, List.set_cons_succ])
  refine wpAnyH_take (i := 6) (oi := ⟨some 147, _, _, _, _, _⟩) (v := ?_) rfl (by decide +kernel) (by decide +kernel) (by decide +kernel) (fun _ _ _ h => h) (Or.inl ⟨by rfl, ?_⟩) (by assumption) ?_
  rotate_left
  ·intro wq hSw; (try dsimp only at hSw); go_simp; (try with_reducible rfl)
  (try simp only [Act.put, List.setIfInBounds_toArray, List.set_cons_zero, List.set_cons_succ])
  refine wpAnyH_take (i := 7) (oi := ⟨some 148, _, _, _, _, _⟩) (v := ?_) rfl (by decide +kernel) (by decide +kernel) (by decide +kernel) (fun _ _ _ h => h) (Or.inl ⟨by rfl, ?_⟩) (by assumption) ?_
  rotate_left
  ·intro wq hSw; (try dsimp only at hSw); go_simp; (try with_reducible rfl)
  (try simp only [Act.put, List.setIfInBounds_toArray, List.set_cons_zero, List.set_cons_succ])
  refine wpAnyH_take (i := 8) (oi := ⟨some 4, _, _, _, _, _⟩) (v := ?_) rfl (by decide +kernel) (by decide +kernel) (by decide +kernel) (fun _ _ _ h => h) (Or.inl ⟨by rfl, ?_⟩) (by assumption) ?_
  rotate_left
  ·intro wq hSw; (try dsimp only at hSw); go_simp; (try with_reducible rfl)
  (try simp only [Act.put, List.setIfInBounds_toArray, List.set_cons_zero, List.set_cons_succ])
  refine wpAnyH_done ?_ ?_ _
  ·decide +kernel
  have kz := hide (grow_step kW kw.out)
  clear kW hHeld
  go_wp2
  exact bodyPost_ret (results_tmp rfl _ _ _) rfl ⟨rfl, kz.out⟩
end Pd
end Go.Proofs.YtfannonacamhhaaGreat
