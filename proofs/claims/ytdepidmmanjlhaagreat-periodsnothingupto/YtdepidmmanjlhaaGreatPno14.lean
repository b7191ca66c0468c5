/-
 Several texts in one: PdL, PdM, PdN, PdO, PdM1, PdP, PdQ, PdR, PdS, PdT, PdU, PdV, LPeriodsNothing.
-/
import Derived.Test.YtdepidmmanjlhaaGreatPno13
import Derived.Test.YtdepidmmanjlhaaGreatPno08
namespace Go.Proofs.YtdepidmmanjlhaaGreat
open Go.RowKit
namespace Pd

theorem step_mod {p : Nat} (_hp : 1 ≤ p) (a : Int) (k m : Nat) (h : (a + k) % (p : Int) = m) : ((m : Int) + 1) % (p : Int) = (a + ((k + 1 : Nat) : Int)) % (p : Int) := by
 rw [← h, show a + ((k + 1 : Nat) : Int) = a + k + 1 by omega]
 exact Int.emod_add_emod _ _ _
theorem per_nat {p : Nat} (hp : 1 ≤ p) (a : Int) : ∃ m : Nat, a % (p : Int) = m := ⟨(a % (p : Int)).toNat, by have := Int.emod_nonneg a (show (p : Int) ≠ 0 by omega); omega⟩
set_option maxRecDepth 100000 in
set_option maxHeartbeats 6400000 in
theorem agreeAt_n {w : World} {bA bB : Nat} {A B : PD} {z : ZV} {i j c : Nat} {a : Int} (hA : PS w bA A) (hB : PS w bB B) (hz : Zm w z.s z.a z.l z.c a) (hzl : z.l ≤ 1099511627776) (hi : i < A.rs.length) (hj : j < B.rs.length) (hc : c ≤ 8192) :
  Calls Tryz.prog 65 #[.pointer (some ⟨bA, 0, none⟩), .pointer (some ⟨bB, 0, none⟩), .agg #[.bool z.s, .slice z.a z.l z.c, .int .i64 i, .int .i64 j], .int .i64 c] w fun e w' => ∃ b, e = .returned (.bool b) ∧ Below w.heap.size w w' ∧ (b = true ↔ ∀ k : Nat, k < c → rmem A.p (rw' A i) (a + k) = rmem B.p (rw' B j) (a + k)) := by
 have b0 := below_alloc w (.cells #[.bool z.s, .slice z.a z.l z.c, .int .i64 i, .int .i64 j] 88)
 have y0 : EB (w.alloc (.cells #[.bool z.s, .slice z.a z.l z.c, .int .i64 i, .int .i64 j] 88)) w.heap.size ⟨z, i, j⟩ := heap_alloc_new w _
 have hwA := hide hA.wf
 have hwB := hide hB.wf
 have hp1 := hwA.out.p1
 have hp2 := hwA.out.p2
 have hq1 := hwB.out.p1
 have hq2 := hwB.out.p2
 obtain ⟨vA, sA, -, rlA⟩ := (hA.below b0).blk
 obtain ⟨vB, sB, -, rlB⟩ := (hB.below b0).blk
 have hin : i < vA.rn := by rw [← rlA.len]; exact hi
 have hjn : j < vB.rn := by rw [← rlB.len]; exact hj
 obtain ⟨r1, o1, g1, ha1, hr1, d1, hg1⟩ := rlA.get hin
 obtain ⟨r2, o2, g2, ha2, hr2, d2, hg2⟩ := rlB.get hjn
 have hl1 := hide (hwA.out.rok hi)
 have hl2 := hide (hwB.out.rok hj)
 replace hg1 : Hid (RB _ g1 (rw' A i)) := hide hg1
 replace hg2 : Hid (RB _ g2 (rw' B j)) := hide hg2
 have hz0 := hide (hz.below b0)
 have k0 := hide b0
 clear hA hB hz rlA rlB hi hj b0
 generalize rw' A i = xa at *
 generalize rw' B j = xb at *
 go_enter Tryz.func65, Tryz.ntmps65
 go_upto_region 1 with (fail)
 generalize w.alloc (.cells #[.bool z.s, .slice z.a z.l z.c, .int .i64 i, .int .i64 j] 88) = w0 at *
 have hbt := y0.lt
 generalize hbe : w.heap.size = bt at *
 replace hbe := hide hbe
 have e2 := sA.c2
 have e3 := sB.c2
 rw [ha1] at e2
 rw [ha2] at e3
 have hsl := sA.lt
 have hsl2 := sB.lt
 replace sA := hide sA
 replace sB := hide sB
 replace y0 := hide y0
 refine wp_region_held_drew (S := (fun w' => w'.cell? ⟨bA, 2, none⟩ = some (.slice (some ⟨r1, o1, none⟩) vA.rn vA.rc) ∧ w'.cell? ⟨bB, 2, none⟩ = some (.slice (some ⟨r2, o2, none⟩) vB.rn vB.rc) ∧ w'.cell? ⟨bt, 2, none⟩ = some (.int .i64 i) ∧ w'.cell? ⟨bt, 3, none⟩ = some (.int .i64 j) ∧ w'.cell? ⟨r1, o1 + i, none⟩ = some (.slice (some ⟨g1, 0, none⟩) (wn A.p) (wn A.p)) ∧ w'.cell? ⟨r2, o2 + j, none⟩ = some (.slice (some ⟨g2, 0, none⟩) (wn B.p) (wn B.p)))) (by kernel_rfl) (⟨(Below.cell (grow_drew (Below.refl _ _)) hsl).trans e2, (Below.cell (grow_drew (Below.refl _ _)) hsl2).trans e3, (y0.out.below (grow_drew (Below.refl _ _))).c2, (y0.out.below (grow_drew (Below.refl _ _))).c3, (Below.cell (grow_drew (Below.refl _ _)) hr1).trans d1, (Below.cell (grow_drew (Below.refl _ _)) hr2).trans d2⟩) (fun hHeld => ?_)
 show wpAnyH _ _ _ _ _ 18 _ _ _
 have kW := grow_drew (Below.refl w0.heap.size w0)
 generalize w0.drew = wQ at *
 repeat' first
  | with_reducible exact AllReadyH.nil
  | (
   refine wpAnyH_take (i := 0) (oi := ⟨some 13, _, _, _, _, _⟩) (v := ?_) rfl (by decide +kernel) (by decide +kernel) (by decide +kernel) (fun _ _ _ h => h) (Or.inl ⟨by rfl, ?_⟩) (by assumption) ?_
   rotate_left
   ·intro wq hSw; (try dsimp only at hSw); go_simp; (try with_reducible rfl)
   (try simp only [Act.put, List.setIfInBounds_toArray, List.set_cons_zero, List.set_cons_succ]))
  | (
   refine wpAnyH_take (i := 1) (oi := ⟨some 14, _, _, _, _, _⟩) (v := ?_) rfl (by decide +kernel) (by decide +kernel) (by decide +kernel) (fun _ _ _ h => h) (Or.inl ⟨by rfl, ?_⟩) (by assumption) ?_
   rotate_left
   ·intro wq hSw; (try dsimp only at hSw); go_simp; (try with_reducible rfl)
   (try simp only [Act.put, List.setIfInBounds_toArray, List.set_cons_zero, List.set_cons_succ]))
  | (
   refine wpAnyH_take (i := 2) (oi := ⟨some 15, _, _, _, _, _⟩) (v := ?_) rfl (by decide +kernel) (by decide +kernel) (by decide +kernel) (fun _ _ _ h => h) (Or.inl ⟨by rfl, ?_⟩) (by assumption) ?_
   rotate_left
   ·intro wq hSw; (try dsimp only at hSw); go_simp; (try with_reducible rfl)
   (try simp only [Act.put, List.setIfInBounds_toArray, List.set_cons_zero, List.set_cons_succ]))
  | (
   refine wpAnyH_take (i := 3) (oi := ⟨some 16, _, _, _, _, _⟩) (v := ?_) rfl (by decide +kernel) (by decide +kernel) (by decide +kernel) (fun _ _ _ h => h) (Or.inl ⟨by rfl, ?_⟩) (by assumption) ?_
   rotate_left
   ·intro wq hSw; (try dsimp only at hSw); go_simp; (try with_reducible rfl)
   (try simp only [Act.put, List.setIfInBounds_toArray, List.set_cons_zero, List.set_cons_succ]))
  | (
   refine wpAnyH_take (i := 4) (oi := ⟨some 17, _, _, _, _, _⟩) (v := ?_) rfl (by decide +kernel) (by decide +kernel) (by decide +kernel) (fun _ _ _ h => h) (Or.inl ⟨by rfl, ?_⟩) (by assumption) ?_
   rotate_left
   ·intro wq hSw; (try dsimp only at hSw); go_simp; (try with_reducible rfl)
   (try simp only [Act.put, List.setIfInBounds_toArray, List.set_cons_zero, List.set_cons_succ]))
  | (
   refine wpAnyH_take (i := 5) (oi := ⟨some 18, _, _, _, _, _⟩) (v := ?_) rfl (by decide +kernel) (by decide +kernel) (by decide +kernel) (fun _ _ _ h => h) (Or.inl ⟨by rfl, ?_⟩) (by assumption) ?_
   rotate_left
   ·intro wq hSw; (try dsimp only at hSw); go_simp; (try with_reducible rfl)
   (try simp only [Act.put, List.setIfInBounds_toArray, List.set_cons_zero, List.set_cons_succ]))
  | (
   refine wpAnyH_take (i := 6) (oi := ⟨some 19, _, _, _, _, _⟩) (v := ?_) rfl (by decide +kernel) (by decide +kernel) (by decide +kernel) (fun _ _ _ h => h) (Or.inl ⟨by rfl, ?_⟩) (by assumption) ?_
   rotate_left
   ·intro wq hSw; (try dsimp only at hSw); go_simp; (try with_reducible rfl)
   (try simp only [Act.put, List.setIfInBounds_toArray, List.set_cons_zero, List.set_cons_succ]))
  | (
   refine wpAnyH_take (i := 7) (oi := ⟨some 20, _, _, _, _, _⟩) (v := ?_) rfl (by decide +kernel) (by decide +kernel) (by decide +kernel) (fun _ _ _ h => h) (Or.inl ⟨by rfl, ?_⟩) (by assumption) ?_
   rotate_left
   ·intro wq hSw; (try dsimp only at hSw); go_simp; (try with_reducible rfl)
   (try simp only [Act.put, List.setIfInBounds_toArray, List.set_cons_zero, List.set_cons_succ]))
  | (
   refine wpAnyH_take (i := 8) (oi := ⟨some 21, _, _, _, _, _⟩) (v := ?_) rfl (by decide +kernel) (by decide +kernel) (by decide +kernel) (fun _ _ _ h => h) (Or.inl ⟨by rfl, ?_⟩) (by assumption) ?_
   rotate_left
   ·intro wq hSw; (try dsimp only at hSw); go_simp; (try with_reducible rfl)
   (try simp only [Act.put, List.setIfInBounds_toArray, List.set_cons_zero, List.set_cons_succ]))
  | (
   refine wpAnyH_take (i := 9) (oi := ⟨some 22, _, _, _, _, _⟩) (v := ?_) rfl (by decide +kernel) (by decide +kernel) (by decide +kernel) (fun _ _ _ h => h) (Or.inl ⟨by rfl, ?_⟩) (by assumption) ?_
   rotate_left
   ·intro wq hSw; (try dsimp only at hSw); go_simp; (try with_reducible rfl)
   (try simp only [Act.put, List.setIfInBounds_toArray, List.set_cons_zero, List.set_cons_succ]))
  | (
   refine wpAnyH_take (i := 10) (oi := ⟨some 23, _, _, _, _, _⟩) (v := ?_) rfl (by decide +kernel) (by decide +kernel) (by decide +kernel) (fun _ _ _ h => h) (Or.inl ⟨by rfl, ?_⟩) (by assumption) ?_
   rotate_left
   ·intro wq hSw; (try dsimp only at hSw); go_simp; (try with_reducible rfl)
   (try simp only [Act.put, List.setIfInBounds_toArray, List.set_cons_zero, List.set_cons_succ]))
  | (
   refine wpAnyH_take (i := 11) (oi := ⟨some 24, _, _, _, _, _⟩) (v := ?_) rfl (by decide +kernel) (by decide +kernel) (by decide +kernel) (fun _ _ _ h => h) (Or.inl ⟨by rfl, ?_⟩) (by assumption) ?_
   rotate_left
   ·intro wq hSw; (try dsimp only at hSw); go_simp; (try with_reducible rfl)
   (try simp only [Act.put, List.setIfInBounds_toArray, List.set_cons_zero, List.set_cons_succ]))
  | (
   refine wpAnyH_take (i := 12) (oi := ⟨some 25, _, _, _, _, _⟩) (v := ?_) rfl (by decide +kernel) (by decide +kernel) (by decide +kernel) (fun _ _ _ h => h) (Or.inl ⟨by rfl, ?_⟩) (by assumption) ?_
   rotate_left
   ·intro wq hSw; (try dsimp only at hSw); go_simp; (try with_reducible rfl)
   (try simp only [Act.put, List.setIfInBounds_toArray, List.set_cons_zero, List.set_cons_succ]))
  | (
   refine wpAnyH_take (i := 13) (oi := ⟨some 26, _, _, _, _, _⟩) (v := ?_) rfl (by decide +kernel) (by decide +kernel) (by decide +kernel) (fun _ _ _ h => h) (Or.inl ⟨by rfl, ?_⟩) (by assumption) ?_
   rotate_left
   ·intro wq hSw; (try dsimp only at hSw); go_simp; (try with_reducible rfl)
   (try simp only [Act.put, List.setIfInBounds_toArray, List.set_cons_zero, List.set_cons_succ]))
  | (
   refine wpAnyH_take (i := 14) (oi := ⟨some 27, _, _, _, _, _⟩) (v := ?_) rfl (by decide +kernel) (by decide +kernel) (by decide +kernel) (fun _ _ _ h => h) (Or.inl ⟨by rfl, ?_⟩) (by assumption) ?_
   rotate_left
   ·intro wq hSw; (try dsimp only at hSw); go_simp; (try with_reducible rfl)
   (try simp only [Act.put, List.setIfInBounds_toArray, List.set_cons_zero, List.set_cons_succ]))
  | (
   refine wpAnyH_take (i := 15) (oi := ⟨some 28, _, _, _, _, _⟩) (v := ?_) rfl (by decide +kernel) (by decide +kernel) (by decide +kernel) (fun _ _ _ h => h) (Or.inl ⟨by rfl, ?_⟩) (by assumption) ?_
   rotate_left
   ·intro wq hSw; (try dsimp only at hSw); go_simp; (try with_reducible rfl)
   (try simp only [Act.put, List.setIfInBounds_toArray, List.set_cons_zero, List.set_cons_succ]))
  | (refine wpAnyH_ready (rs := [16]) ?_ ?_ ?_; decide +kernel; simp)
  | (refine wpAnyH_ready (rs := [17]) ?_ ?_ ?_; decide +kernel; simp)
  | (
   first
    | (
     refine AllReadyH.cons (i := 16) (o := ⟨some 9, _, _, _, _, _⟩) rfl (fun K hK => ?_) ?_
     go_simp)
    | (
     refine AllReadyH.cons (i := 17) (o := ⟨some 10, _, _, _, _, _⟩) rfl (fun K hK => ?_) ?_
     go_simp)
   refine hK.out _ _ ?_ ?_
   ·first | with_reducible exact trivial | ((try dsimp only); exact ⟨(Below.cell kW hsl).trans e2, (Below.cell kW hsl2).trans e3, (y0.out.below kW).c2, (y0.out.below kW).c3, (Below.cell kW hr1).trans d1, (Below.cell kW hr2).trans d2⟩)
   clear hK K hHeld; intro hHeld
   (try simp only [Act.put, List.setIfInBounds_toArray, List.set_cons_zero, List.set_cons_succ]))
 refine wpAnyH_done ?_ ?_ _
 ·decide +kernel
 have k1 := hide kW
 have sA1 := hide (sA.out.below kW)
 have sB1 := hide (sB.out.below kW)
 have y1 := hide (y0.out.below kW)
 have hz1 := hide (hz0.out.below kW)
 have hga := hide (hg1.out.below kW)
 have hgb := hide (hg2.out.below kW)
 obtain ⟨ma, hma⟩ := per_nat hp1 a
 obtain ⟨mb, hmb⟩ := per_nat hq1 a
 replace hma := hide hma
 replace hmb := hide hmb
 clear kW hHeld e2 e3 d1 d2
 go_upto_region 2 with (fail)
 generalize wQ = w1 at *
 refine wp_region_held_drew (S := (fun w' => w'.cell? ⟨bA, 0, none⟩ = some (.int .i64 A.p) ∧ w'.cell? ⟨bB, 0, none⟩ = some (.int .i64 B.p) ∧ w'.cell? ⟨bt, 0, none⟩ = some (.bool z.s) ∧ w'.cell? ⟨bt, 1, none⟩ = some (.slice z.a z.l z.c))) (by kernel_rfl) (⟨(sA1.out.below (grow_drew (Below.refl _ _))).c0, (sB1.out.below (grow_drew (Below.refl _ _))).c0, (y1.out.below (grow_drew (Below.refl _ _))).c0, (y1.out.below (grow_drew (Below.refl _ _))).c1⟩) (fun hHeld => ?_)
 show wpAnyH _ _ _ _ _ 16 _ _ _
 have kW := grow_drew (Below.refl w1.heap.size w1)
 generalize w1.drew = wQ at *
 repeat' first
  | with_reducible exact AllReadyH.nil
  | (
   refine wpAnyH_take (i := 0) (oi := ⟨some 29, _, _, _, _, _⟩) (v := ?_) rfl (by decide +kernel) (by decide +kernel) (by decide +kernel) (fun _ _ _ h => h) (Or.inl ⟨by rfl, ?_⟩) (by assumption) ?_
   rotate_left
   ·intro wq hSw; (try dsimp only at hSw); go_simp; (try with_reducible rfl)
   (try simp only [Act.put, List.setIfInBounds_toArray, List.set_cons_zero, List.set_cons_succ]))
  | (
   refine wpAnyH_take (i := 1) (oi := ⟨some 30, _, _, _, _, _⟩) (v := ?_) rfl (by decide +kernel) (by decide +kernel) (by decide +kernel) (fun _ _ _ h => h) (Or.inl ⟨by rfl, ?_⟩) (by assumption) ?_
   rotate_left
   ·intro wq hSw; (try dsimp only at hSw); go_simp; (try with_reducible rfl)
   (try simp only [Act.put, List.setIfInBounds_toArray, List.set_cons_zero, List.set_cons_succ]))
  | (
   refine wpAnyH_take (i := 2) (oi := ⟨some 31, _, _, _, _, _⟩) (v := ?_) rfl (by decide +kernel) (by decide +kernel) (by decide +kernel) (fun _ _ _ h => h) (Or.inl ⟨by rfl, ?_⟩) (by assumption) ?_
   rotate_left
   ·intro wq hSw; (try dsimp only at hSw); go_simp; (try with_reducible rfl)
   (try simp only [Act.put, List.setIfInBounds_toArray, List.set_cons_zero, List.set_cons_succ]))
  | (
   refine wpAnyH_take (i := 3) (oi := ⟨some 32, _, _, _, _, _⟩) (v := ?_) rfl (by decide +kernel) (by decide +kernel) (by decide +kernel) (fun _ _ _ h => h) (Or.inl ⟨by rfl, ?_⟩) (by assumption) ?_
   rotate_left
   ·intro wq hSw; (try dsimp only at hSw); go_simp; (try with_reducible rfl)
   (try simp only [Act.put, List.setIfInBounds_toArray, List.set_cons_zero, List.set_cons_succ]))
  | (
   refine wpAnyH_take (i := 4) (oi := ⟨some 33, _, _, _, _, _⟩) (v := ?_) rfl (by decide +kernel) (by decide +kernel) (by decide +kernel) (fun _ _ _ h => h) (Or.inl ⟨by rfl, ?_⟩) (by assumption) ?_
   rotate_left
   ·intro wq hSw; (try dsimp only at hSw); go_simp; (try with_reducible rfl)
   (try simp only [Act.put, List.setIfInBounds_toArray, List.set_cons_zero, List.set_cons_succ]))
  | (
   refine wpAnyH_take (i := 5) (oi := ⟨some 34, _, _, _, _, _⟩) (v := ?_) rfl (by decide +kernel) (by decide +kernel) (by decide +kernel) (fun _ _ _ h => h) (Or.inl ⟨by rfl, ?_⟩) (by assumption) ?_
   rotate_left
   ·intro wq hSw; (try dsimp only at hSw); go_simp; (try with_reducible rfl)
   (try simp only [Act.put, List.setIfInBounds_toArray, List.set_cons_zero, List.set_cons_succ]))
  | (
   refine wpAnyH_take (i := 7) (oi := ⟨some 36, _, _, _, _, _⟩) (v := ?_) rfl (by decide +kernel) (by decide +kernel) (by decide +kernel) (fun _ _ _ h => h) (Or.inl ⟨by rfl, ?_⟩) (by assumption) ?_
   rotate_left
   ·intro wq hSw; (try dsimp only at hSw); go_simp; (try with_reducible rfl)
   (try simp only [Act.put, List.setIfInBounds_toArray, List.set_cons_zero, List.set_cons_succ]))
  | (
   refine wpAnyH_take (i := 8) (oi := ⟨some 37, _, _, _, _, _⟩) (v := ?_) rfl (by decide +kernel) (by decide +kernel) (by decide +kernel) (fun _ _ _ h => h) (Or.inl ⟨by rfl, ?_⟩) (by assumption) ?_
   rotate_left
   ·intro wq hSw; (try dsimp only at hSw); go_simp; (try with_reducible rfl)
   (try simp only [Act.put, List.setIfInBounds_toArray, List.set_cons_zero, List.set_cons_succ]))
  | (
   refine wpAnyH_take (i := 9) (oi := ⟨some 38, _, _, _, _, _⟩) (v := ?_) rfl (by decide +kernel) (by decide +kernel) (by decide +kernel) (fun _ _ _ h => h) (Or.inl ⟨by rfl, ?_⟩) (by assumption) ?_
   rotate_left
   ·intro wq hSw; (try dsimp only at hSw); go_simp; (try with_reducible rfl)
   (try simp only [Act.put, List.setIfInBounds_toArray, List.set_cons_zero, List.set_cons_succ]))
  | (
   refine wpAnyH_take (i := 10) (oi := ⟨some 39, _, _, _, _, _⟩) (v := ?_) rfl (by decide +kernel) (by decide +kernel) (by decide +kernel) (fun _ _ _ h => h) (Or.inl ⟨by rfl, ?_⟩) (by assumption) ?_
   rotate_left
   ·intro wq hSw; (try dsimp only at hSw); go_simp; (try with_reducible rfl)
   (try simp only [Act.put, List.setIfInBounds_toArray, List.set_cons_zero, List.set_cons_succ]))
  | (
   refine wpAnyH_take (i := 11) (oi := ⟨some 40, _, _, _, _, _⟩) (v := ?_) rfl (by decide +kernel) (by decide +kernel) (by decide +kernel) (fun _ _ _ h => h) (Or.inl ⟨by rfl, ?_⟩) (by assumption) ?_
   rotate_left
   ·intro wq hSw; (try dsimp only at hSw); go_simp; (try with_reducible rfl)
   (try simp only [Act.put, List.setIfInBounds_toArray, List.set_cons_zero, List.set_cons_succ]))
  | (
   refine wpAnyH_take (i := 12) (oi := ⟨some 41, _, _, _, _, _⟩) (v := ?_) rfl (by decide +kernel) (by decide +kernel) (by decide +kernel) (fun _ _ _ h => h) (Or.inl ⟨by rfl, ?_⟩) (by assumption) ?_
   rotate_left
   ·intro wq hSw; (try dsimp only at hSw); go_simp; (try with_reducible rfl)
   (try simp only [Act.put, List.setIfInBounds_toArray, List.set_cons_zero, List.set_cons_succ]))
  | (refine wpAnyH_ready (rs := [6]) ?_ ?_ ?_; decide +kernel; simp)
  | (refine wpAnyH_ready (rs := [13]) ?_ ?_ ?_; decide +kernel; simp)
  | (refine wpAnyH_ready (rs := [14]) ?_ ?_ ?_; decide +kernel; simp)
  | (refine wpAnyH_ready (rs := [15]) ?_ ?_ ?_; decide +kernel; simp)
  | (
   first
    | (
     refine AllReadyH.cons (i := 6) (o := ⟨some 35, _, _, _, _, _⟩) rfl (fun K hK => ?_) ?_
     go_simp
     go_at_call 30; refine Calls.mono (remainderOf_n (hz1.out.below kW) hzl hp1 hp2) ?_; rintro e wC ⟨rfl, kC⟩; (try rw [hma.out])
     have kW := grow_step kC kW
     try go_wp2_with fail)
    | (
     refine AllReadyH.cons (i := 13) (o := ⟨some 42, _, _, _, _, _⟩) rfl (fun K hK => ?_) ?_
     go_simp
     go_at_call 30; refine Calls.mono (remainderOf_n (hz1.out.below kW) hzl hq1 hq2) ?_; rintro e wC ⟨rfl, kC⟩; (try rw [hmb.out])
     have kW := grow_step kC kW
     try go_wp2_with fail)
    | (
     refine AllReadyH.cons (i := 14) (o := ⟨some 11, _, _, _, _, _⟩) rfl (fun K hK => ?_) ?_
     go_simp)
    | (
     refine AllReadyH.cons (i := 15) (o := ⟨some 12, _, _, _, _, _⟩) rfl (fun K hK => ?_) ?_
     go_simp)
   refine hK.out _ _ ?_ ?_
   ·first | with_reducible exact trivial | ((try dsimp only); exact ⟨(sA1.out.below kW).c0, (sB1.out.below kW).c0, (y1.out.below kW).c0, (y1.out.below kW).c1⟩)
   clear hK K hHeld; intro hHeld
   (try simp only [Act.put, List.setIfInBounds_toArray, List.set_cons_zero, List.set_cons_succ]))
 all_goals
  refine wpAnyH_done ?_ ?_ _
  ·decide +kernel
  have k2 := hide (grow_step kW k1.out)
  have sA2 := hide (sA1.out.below kW)
  have sB2 := hide (sB1.out.below kW)
  have hga2 := hide (hga.out.below kW)
  have hgb2 := hide (hgb.out.below kW)
  clear kW hHeld
  generalize wC = w2 at *
  go_wp2_with fail
  go_loopw [11, 12, 44] (fun vl vr vi wr => ∃ k ml mr : Nat, k ≤ c ∧ vl = .int .i64 ml ∧ vr = .int .i64 mr ∧ vi = .int .i64 k ∧ (a + k) % (A.p : Int) = ml ∧ (a + k) % (B.p : Int) = mr ∧ (∀ t : Nat, t < k → rmem A.p xa (a + t) = rmem B.p xb (a + t)) ∧ Below w0.heap.size w0 wr) (fun _ _ vi _ => c - (intOf vi).toNat)
  case atStart => exact ⟨0, ma, mb, Nat.zero_le _, rfl, rfl, rfl, by simpa using hma.out, by simpa using hmb.out, fun t h => by omega, k2.out⟩
  case round =>
   obtain ⟨k, ml, mr, hk, rfl, rfl, rfl, hml, hmr, hag, kr⟩ := hrel
   replace hag := hide hag
   have hmlp : ml < A.p := by have := Int.emod_lt_of_pos (a + k) (show (0 : Int) < A.p by omega); omega
   have hmrp : mr < B.p := by have := Int.emod_lt_of_pos (a + k) (show (0 : Int) < B.p by omega); omega
   by_cases hkc : k < c
   ·have h1 := hide (has_b (hg1.out.below kr) hl1.out.len hl1.out.ws (r := ml) (lt_wn hmlp) (by omega))
    go_wp2_with fail
    refine h1.out.mono ?_
    rintro e w5 ⟨rfl, k5⟩
    have kr5 := hide (grow_step k5 kr)
    have h2 := hide (has_b (hg2.out.below kr5.out) hl2.out.len hl2.out.ws (r := mr) (lt_wn hmrp) (by omega))
    clear h1 k5
    go_wp2_with fail
    refine h2.out.mono ?_
    rintro e w6 ⟨rfl, k6⟩
    have kr6 := hide (grow_step k6 kr5.out)
    clear h2 k6
    have hv1 : Hid (rmem A.p xa (a + k) = hb xa ml) := hide (by unfold rmem; rw [hml]; rfl)
    have hv2 : Hid (rmem B.p xb (a + k) = hb xb mr) := hide (by unfold rmem; rw [hmr]; rfl)
    by_cases hx : hb xa ml = hb xb mr
    ·have hxb : (hb xa ml != hb xb mr) = false := by rw [hx]; simp
     have hxy : Hid (rmem A.p xa (a + k) = rmem B.p xb (a + k)) := hide (by rw [hv1.out, hv2.out, hx])
     have sA6 := hide (sA.out.below kr6.out)
     have sB6 := hide (sB.out.below kr6.out)
     clear kr
     have hpz : ¬ A.p = 0 := by omega
     have hqz : ¬ B.p = 0 := by omega
     obtain ⟨m1, hm1⟩ := per_nat hp1 (a + ((k + 1 : Nat) : Int))
     obtain ⟨m2, hm2⟩ := per_nat hq1 (a + ((k + 1 : Nat) : Int))
     have ht1 : (IntKind.i64.wrap ((ml : Int) + 1)).tmod (A.p : Int) = (m1 : Int) := by
      rw [show IntKind.i64.wrap ((ml : Int) + 1) = (ml : Int) + 1 by rw [IntKind.wrap_i64]; omega, Int.tmod_eq_emod_of_nonneg (by omega), step_mod hp1 a k ml hml, hm1]
     have ht2 : (IntKind.i64.wrap ((mr : Int) + 1)).tmod (B.p : Int) = (m2 : Int) := by
      rw [show IntKind.i64.wrap ((mr : Int) + 1) = (mr : Int) + 1 by rw [IntKind.wrap_i64]; omega, Int.tmod_eq_emod_of_nonneg (by omega), step_mod hq1 a k mr hmr, hm2]
     replace hm1 := hide hm1
     replace hm2 := hide hm2
     replace hml := hide hml
     replace hmr := hide hmr
     go_upto_region 7 with (fail)
     refine wp_region_held_drew (S := (fun w' => w'.cell? ⟨bA, 0, none⟩ = some (.int .i64 A.p) ∧ w'.cell? ⟨bB, 0, none⟩ = some (.int .i64 B.p))) (by kernel_rfl) (⟨(sA6.out.below (grow_drew (Below.refl _ _))).c0, (sB6.out.below (grow_drew (Below.refl _ _))).c0⟩) (fun hHeld => ?_)
     show wpAnyH _ _ _ _ _ 16 _ _ _
     have kW := grow_drew (Below.refl w6.heap.size w6)
     generalize w6.drew = wQ at *
     repeat' first
      | with_reducible exact AllReadyH.nil
      | (
       refine wpAnyH_take (i := 0) (oi := ⟨some 53, _, _, _, _, _⟩) (v := ?_) rfl (by decide +kernel) (by decide +kernel) (by decide +kernel) (fun _ _ _ h => h) (Or.inl ⟨by rfl, ?_⟩) (by assumption) ?_
       rotate_left
       ·intro wq hSw; (try dsimp only at hSw); go_simp; (try with_reducible rfl)
       (try simp only [Act.put, List.setIfInBounds_toArray, List.set_cons_zero, List.set_cons_succ]))
      | (
       refine wpAnyH_take (i := 1) (oi := ⟨some 54, _, _, _, _, _⟩) (v := ?_) rfl (by decide +kernel) (by decide +kernel) (by decide +kernel) (fun _ _ _ h => h) (Or.inl ⟨by rfl, ?_⟩) (by assumption) ?_
       rotate_left
       ·intro wq hSw; (try dsimp only at hSw); go_simp; (try with_reducible rfl)
       (try simp only [Act.put, List.setIfInBounds_toArray, List.set_cons_zero, List.set_cons_succ]))
      | (
       refine wpAnyH_take (i := 2) (oi := ⟨some 55, _, _, _, _, _⟩) (v := ?_) rfl (by decide +kernel) (by decide +kernel) (by decide +kernel) (fun _ _ _ h => h) (Or.inl ⟨by rfl, ?_⟩) (by assumption) ?_
       rotate_left
       ·intro wq hSw; (try dsimp only at hSw); go_simp; (try with_reducible rfl)
       (try simp only [Act.put, List.setIfInBounds_toArray, List.set_cons_zero, List.set_cons_succ]))
      | (
       refine wpAnyH_take (i := 3) (oi := ⟨some 56, _, _, _, _, _⟩) (v := ?_) rfl (by decide +kernel) (by decide +kernel) (by decide +kernel) (fun _ _ _ h => h) (Or.inl ⟨by rfl, ?_⟩) (by assumption) ?_
       rotate_left
       ·intro wq hSw; (try dsimp only at hSw); go_simp; (try with_reducible rfl)
       (try simp only [Act.put, List.setIfInBounds_toArray, List.set_cons_zero, List.set_cons_succ]))
      | (
       refine wpAnyH_take (i := 4) (oi := ⟨some 57, _, _, _, _, _⟩) (v := ?_) rfl (by decide +kernel) (by decide +kernel) (by decide +kernel) (fun _ _ _ h => h) (Or.inl ⟨by rfl, ?_⟩) (by assumption) ?_
       rotate_left
       ·intro wq hSw; (try dsimp only at hSw); go_simp; (try with_reducible rfl)
       (try simp only [Act.put, List.setIfInBounds_toArray, List.set_cons_zero, List.set_cons_succ]))
      | (
       refine wpAnyH_take (i := 5) (oi := ⟨some 58, _, _, _, _, _⟩) (v := ?_) rfl (by decide +kernel) (by decide +kernel) (by decide +kernel) (fun _ _ _ h => h) (Or.inl ⟨by rfl, ?_⟩) (by assumption) ?_
       rotate_left
       ·intro wq hSw; (try dsimp only at hSw); go_simp; (try with_reducible rfl)
       (try simp only [Act.put, List.setIfInBounds_toArray, List.set_cons_zero, List.set_cons_succ]))
      | (
       refine wpAnyH_take (i := 6) (oi := ⟨some 59, _, _, _, _, _⟩) (v := ?_) rfl (by decide +kernel) (by decide +kernel) (by decide +kernel) (fun _ _ _ h => h) (Or.inl ⟨by rfl, ?_⟩) (by assumption) ?_
       rotate_left
       ·intro wq hSw; (try dsimp only at hSw); go_simp; (try with_reducible rfl)
       (try simp only [Act.put, List.setIfInBounds_toArray, List.set_cons_zero, List.set_cons_succ]))
      | (
       refine wpAnyH_take (i := 7) (oi := ⟨some 60, _, _, _, _, _⟩) (v := ?_) rfl (by decide +kernel) (by decide +kernel) (by decide +kernel) (fun _ _ _ h => h) (Or.inl ⟨by rfl, ?_⟩) (by assumption) ?_
       rotate_left
       ·intro wq hSw; (try dsimp only at hSw); go_simp; (try with_reducible rfl)
       (try simp only [Act.put, List.setIfInBounds_toArray, List.set_cons_zero, List.set_cons_succ]))
      | (
       refine wpAnyH_take (i := 8) (oi := ⟨some 61, _, _, _, _, _⟩) (v := ?_) rfl (by decide +kernel) (by decide +kernel) (by decide +kernel) (fun _ _ _ h => h) (Or.inl ⟨by rfl, ?_⟩) (by assumption) ?_
       rotate_left
       ·intro wq hSw; (try dsimp only at hSw); go_simp; (try with_reducible rfl)
       (try simp only [Act.put, List.setIfInBounds_toArray, List.set_cons_zero, List.set_cons_succ]))
      | (
       refine wpAnyH_take (i := 9) (oi := ⟨some 62, _, _, _, _, _⟩) (v := ?_) rfl (by decide +kernel) (by decide +kernel) (by decide +kernel) (fun _ _ _ h => h) (Or.inl ⟨by rfl, ?_⟩) (by assumption) ?_
       rotate_left
       ·intro wq hSw; (try dsimp only at hSw); go_simp; (try with_reducible rfl)
       (try simp only [Act.put, List.setIfInBounds_toArray, List.set_cons_zero, List.set_cons_succ]))
      | (
       refine wpAnyH_take (i := 10) (oi := ⟨some 63, _, _, _, _, _⟩) (v := ?_) rfl (by decide +kernel) (by decide +kernel) (by decide +kernel) (fun _ _ _ h => h) (Or.inl ⟨by rfl, ?_⟩) (by assumption) ?_
       rotate_left
       ·intro wq hSw; (try dsimp only at hSw); go_simp; (try with_reducible rfl)
       (try simp only [Act.put, List.setIfInBounds_toArray, List.set_cons_zero, List.set_cons_succ]))
      | (
       refine wpAnyH_take (i := 11) (oi := ⟨some 64, _, _, _, _, _⟩) (v := ?_) rfl (by decide +kernel) (by decide +kernel) (by decide +kernel) (fun _ _ _ h => h) (Or.inl ⟨by rfl, ?_⟩) (by assumption) ?_
       rotate_left
       ·intro wq hSw; (try dsimp only at hSw); go_simp; (try with_reducible rfl)
       (try simp only [Act.put, List.setIfInBounds_toArray, List.set_cons_zero, List.set_cons_succ]))
      | (
       refine wpAnyH_take (i := 12) (oi := ⟨some 65, _, _, _, _, _⟩) (v := ?_) rfl (by decide +kernel) (by decide +kernel) (by decide +kernel) (fun _ _ _ h => h) (Or.inl ⟨by rfl, ?_⟩) (by assumption) ?_
       rotate_left
       ·intro wq hSw; (try dsimp only at hSw); go_simp; (try with_reducible rfl)
       (try simp only [Act.put, List.setIfInBounds_toArray, List.set_cons_zero, List.set_cons_succ]))
      | (
       refine wpAnyH_take (i := 13) (oi := ⟨some 66, _, _, _, _, _⟩) (v := ?_) rfl (by decide +kernel) (by decide +kernel) (by decide +kernel) (fun _ _ _ h => h) (Or.inl ⟨by rfl, ?_⟩) (by assumption) ?_
       rotate_left
       ·intro wq hSw; (try dsimp only at hSw); go_simp; (try with_reducible rfl)
       (try simp only [Act.put, List.setIfInBounds_toArray, List.set_cons_zero, List.set_cons_succ]))
      | (refine wpAnyH_ready (rs := [14]) ?_ ?_ ?_; decide +kernel; simp)
      | (refine wpAnyH_ready (rs := [15]) ?_ ?_ ?_; decide +kernel; simp)
      | (
       first
        | (
         refine AllReadyH.cons (i := 14) (o := ⟨some 11, _, _, _, _, _⟩) rfl (fun K hK => ?_) ?_
         go_simp)
        | (
         refine AllReadyH.cons (i := 15) (o := ⟨some 12, _, _, _, _, _⟩) rfl (fun K hK => ?_) ?_
         go_simp)
       refine hK.out _ _ ?_ ?_
       ·first | with_reducible exact trivial | ((try dsimp only); exact ⟨(sA6.out.below kW).c0, (sB6.out.below kW).c0⟩)
       clear hK K hHeld; intro hHeld
       (try simp only [Act.put, List.setIfInBounds_toArray, List.set_cons_zero, List.set_cons_succ]))
     refine wpAnyH_done ?_ ?_ _
     ·decide +kernel
     have kf := hide (grow_step kW kr6.out)
     clear kW hHeld
     go_wp2
     go_roundw
     case measure => simp [intOf]; omega
     case rel => exact ⟨k + 1, m1, m2, by omega, rfl, rfl, by go_num, hm1.out, hm2.out, fun t ht => by
       by_cases e : t = k
       ·subst e; exact hxy.out
       ·exact hag.out t (by omega), kf.out⟩
    ·have kfin : Hid (Below w.heap.size w w6) := hide (by rw [hbe.out]; exact k0.out.trans (kr6.out.mono (Nat.le_of_lt hbt)))
     have hno : Hid (¬ ∀ k : Nat, k < c → rmem A.p xa (a + k) = rmem B.p xb (a + k)) := hide fun h => hx (by rw [← hv1.out, ← hv2.out]; exact h k hkc)
     cases hu : hb xa ml <;> cases hw : hb xb mr
     ·exact absurd (hu.trans hw.symm) hx
     ·clear hx
      go_wp2
      exact bodyPost_ret (results_tmp rfl _ _ _) rfl ⟨false, rfl, kfin.out, ⟨fun h => (by cases h), fun h => absurd h hno.out⟩⟩
     ·clear hx
      go_wp2
      exact bodyPost_ret (results_tmp rfl _ _ _) rfl ⟨false, rfl, kfin.out, ⟨fun h => (by cases h), fun h => absurd h hno.out⟩⟩
     ·exact absurd (hu.trans hw.symm) hx
   ·obtain rfl : k = c := by omega
    have kfin : Hid (Below w.heap.size w wr) := hide (by rw [hbe.out]; exact k0.out.trans (kr.mono (Nat.le_of_lt hbt)))
    clear kr
    go_wp2
    exact bodyPost_ret (results_tmp rfl _ _ _) rfl ⟨true, rfl, kfin.out, ⟨fun _ t ht => hag.out t ht, fun _ => rfl⟩⟩
end Pd
end Go.Proofs.YtdepidmmanjlhaaGreat

namespace Go.Proofs.YtdepidmmanjlhaaGreat
open Go.RowKit
namespace Pd
/-- each number lies in a stretch -/
theorem str_find {a b : List Int} {L : List SE} (h : Str a b L a.length b.length) (x : Int) : ∃ k, k < L.length ∧ (1 ≤ k → (se L k).f ≤ x) ∧ (k + 1 < L.length → x < (se L (k + 1)).f) := by
 have aux : ∀ n, 1 ≤ n → n ≤ L.length → (n < L.length → x < (se L n).f) → ∃ k, k < L.length ∧ (1 ≤ k → (se L k).f ≤ x) ∧ (k + 1 < L.length → x < (se L (k + 1)).f) := by
  intro n
  induction n with
  | zero => exact fun h => by omega
  | succ n ih =>
   intro h1 h2 h3
   by_cases e : n = 0
   ·subst e
    exact ⟨0, by omega, fun h => by omega, h3⟩
   ·by_cases hx : x < (se L n).f
    ·exact ih (by omega) (by omega) fun _ => hx
    ·exact ⟨n, by omega, fun _ => by omega, h3⟩
 exact aux L.length h.ne (Nat.le_refl _) fun h => absurd h (Nat.lt_irrefl _)
/-- the sets have the same numbers just where they agree on so many of each stretch -/
theorem agree_iff {A B : PD} (hA : Wf A) (hB : Wf B) {L : List SE} (h : Str A.cs B.cs L A.cs.length B.cs.length) {F : Nat → Int} {C : Nat → Nat} (hF : ∀ k, 1 ≤ k → F k = (se L k).f)
  (h1 : ∀ k, k < L.length → C k = A.p + B.p ∨ (1 ≤ k ∧ k + 1 < L.length ∧ (C k : Int) = F (k + 1) - F k)) (h2 : ∀ k, k + 1 < L.length → F k + C k ≤ F (k + 1)) :
  (∀ k, k < L.length → ∀ t : Nat, t < C k → rmem A.p (rw' A (se L k).i) (F k + t) = rmem B.p (rw' B (se L k).j) (F k + t)) ↔ ∀ x, mem A x = mem B x := by
 have hm : ∀ k x, k < L.length → (1 ≤ k → (se L k).f ≤ x) → (k + 1 < L.length → x < (se L (k + 1)).f) → mem A x = rmem A.p (rw' A (se L k).i) x ∧ mem B x = rmem B.p (rw' B (se L k).j) x := fun k x hk a1 a2 => by
  obtain ⟨e1, e2⟩ := str_place h hk a1 a2
  unfold mem rmem
  rw [e1, e2]
  exact ⟨rfl, rfl⟩
 constructor
 ·intro hall x
  obtain ⟨k, hk, a1, a2⟩ := str_find h x
  obtain ⟨m1, m2⟩ := hm k x hk a1 a2
  rw [m1, m2]
  rcases h1 k hk with e | ⟨c1, c2, c3⟩
  ·exact rows_agree hA.p1 hB.p1 (a := F k) (fun t ht => hall k hk t (by omega)) x
  ·have a1 := a1 c1
   have a2 := a2 c2
   rw [← hF k c1] at a1
   rw [← hF (k + 1) (by omega)] at a2
   have := hall k hk (x - F k).toNat (by omega)
   rwa [show F k + ((x - F k).toNat : Int) = x by omega] at this
 ·intro hall k hk t ht
  have a1 : 1 ≤ k → (se L k).f ≤ F k + t := fun h => by rw [← hF k h]; omega
  have a2 : k + 1 < L.length → F k + t < (se L (k + 1)).f := fun h => by
   have := h2 k h
   rw [← hF (k + 1) (by omega)]
   omega
  obtain ⟨m1, m2⟩ := hm k (F k + t) hk a1 a2
  rw [← m1, ← m2]
  exact hall _
/-- a number stays where a block of another type changes -/
theorem zn_grown {w w' : World} {s : Bool} {a : Option Addr} {l c : Nat} {x : Int} {o : Option Nat} (h : Fresh.Zn 0 w s a l c x) (hg : w.grownBy w' o) (ho : ∀ g, o = some g → ∃ e, Own w g e ∧ 78 ≠ e) : Fresh.Zn 0 w' s a l c x := by
 obtain ⟨n, ⟨⟨zs, hr, hc, hv⟩, -, hf⟩, hs, hn⟩ := h
 have hf' : Fresh.Fr 0 w' a c := by
  rcases hf with hf | ⟨b, xs, e, h0, hrow, h1⟩
  ·exact .inl hf
  ·exact .inr ⟨b, xs, e, h0, (hg.block b hrow.lt fun e => by
    obtain ⟨t, h3, h4⟩ := ho b e.symm
    exact h3.ne hrow h4 rfl).trans hrow, h1⟩
 refine ⟨n, ⟨⟨zs, ?_, hc, hv⟩, Nat.zero_le _, hf'⟩, hs, hn⟩
 obtain ⟨h1, h2, h3, h4, h5⟩ := hr
 refine ⟨h1, h2, h3, h4, ?_⟩
 rcases h5 with h5 | ⟨a0, ha, h5⟩
 ·exact .inl h5
 ·refine .inr ⟨a0, ha, h5.imp id ?_⟩
  rintro ⟨b, off, rfl, hb, hcell⟩
  have hne : some b ≠ o := fun e => by
   rcases hf with ⟨e2, -⟩ | ⟨b', xs, e2, -, hrow, -⟩
   ·rw [e2] at ha; cases ha
   ·rw [e2] at ha
    cases ha
    obtain ⟨t, h3, h4⟩ := ho b e.symm
    exact h3.ne hrow h4 rfl
  exact ⟨b, off, rfl, Nat.lt_of_lt_of_le hb hg.size, fun i hi => (World.cell?_of_block (a := ⟨b, off + i, none⟩) (hg.block b hb hne)).trans (hcell i hi)⟩
/-- stretches to be looked at -/
def EL2 (w : World) (g n : Nat) (L : List SE) (F : Nat → Int) : Prop :=
 g < w.heap.size ∧ ∀ k, k < n → ∃ z : ZV, w.cell? ⟨g, k * 4, none⟩ = some (.bool z.s) ∧ w.cell? ⟨g, k * 4 + 1, none⟩ = some (.slice z.a z.l z.c) ∧ w.cell? ⟨g, k * 4 + 2, none⟩ = some (.int .i64 (se L k).i) ∧ w.cell? ⟨g, k * 4 + 3, none⟩ = some (.int .i64 (se L k).j) ∧ Zm w z.s z.a z.l z.c (F k) ∧ z.l ≤ 1073741826
theorem EL2.below {w w' : World} {g n : Nat} {L : List SE} {F : Nat → Int} (h : EL2 w g n L F) (k : Below w.heap.size w w') : EL2 w' g n L F := by
 refine ⟨Nat.lt_of_lt_of_le h.1 k.size, fun i hi => ?_⟩
 obtain ⟨z, h0, h1, h2, h3, h4, h5⟩ := h.2 i hi
 exact ⟨z, (k.cell (p := ⟨g, _, none⟩) h.1).trans h0, (k.cell (p := ⟨g, _, none⟩) h.1).trans h1, (k.cell (p := ⟨g, _, none⟩) h.1).trans h2, (k.cell (p := ⟨g, _, none⟩) h.1).trans h3, h4.below k, h5⟩
/-- the first stretch begins elsewhere -/
theorem el_first {w : World} {g n c : Nat} {L : List SE} (h : ELs w (some ⟨g, 0, none⟩) n c L) (_hn : 1 ≤ n) {z : ZV} {f : Int} (hz : Fresh.Zn 0 w z.s z.a z.l z.c f) (hl : z.l ≤ 1073741826) :
  EL2 ((w.setCell ⟨g, 0, none⟩ (.bool z.s)).setCell ⟨g, 1, none⟩ (.slice z.a z.l z.c)) g n L (fun k => if k = 0 then f else (se L k).f) := by
 have ho := only2 g w (.bool z.s) (.slice z.a z.l z.c)
 obtain ⟨b, e, hO, q, hq, hc⟩ := h.at'
 cases e
 have hln := h.len
 have hql := hq.len
 have hsz : ((w.setCell ⟨g, 0, none⟩ (.bool z.s)).setCell ⟨g, 1, none⟩ (.slice z.a z.l z.c)).heap.size = w.heap.size := ho.size
 have hz' := zn_grown (o := some g) hz (grown_only ho) fun g' e => by cases e; exact ⟨_, hO, by decide⟩
 have hq' := hq.only ho hO
 obtain ⟨cur, hcur⟩ := hO
 have w1 := heap_setCell_same w g 0 cur 88 (.bool z.s) hcur
 have w2 := heap_setCell_same _ g 1 _ 88 (.slice z.a z.l z.c) w1
 refine ⟨by rw [hsz]; exact (Array.getElem?_eq_some_iff.1 hcur).1, fun k hk => ?_⟩
 have hcell : ∀ o, 2 ≤ o → ((w.setCell ⟨g, 0, none⟩ (.bool z.s)).setCell ⟨g, 1, none⟩ (.slice z.a z.l z.c)).cell? ⟨g, o, none⟩ = w.cell? ⟨g, o, none⟩ := fun o h2 => by
  rw [cell_of_row _ g o _ _ (0, 0) w2, cell_of_row w g o _ _ (0, 0) hcur]
  simp only [Array.getElem?_setIfInBounds]
  rw [if_neg (by omega), if_neg (by omega)]
 have hlt : ∀ o v, w.cell? ⟨g, o, none⟩ = some v → o < cur.size := fun o v hv => by
  rw [cell_of_row w g o _ _ (0, 0) hcur] at hv
  exact (Array.getElem?_eq_some_iff.1 hv).1
 have hc0 := hc k (by omega) 0 (by decide)
 have hc1 := hc k (by omega) 1 (by decide)
 have hc2 := hc k (by omega) 2 (by decide)
 have hc3 := hc k (by omega) 3 (by decide)
 obtain ⟨n1, n2, n3⟩ := hq.nu k (by omega)
 by_cases e : k = 0
 ·subst e
  refine ⟨z, ?_, ?_, ?_, ?_, ?_, hl⟩
  ·rw [cell_of_row _ g _ _ _ (0, 0) w2]
   have h0 : 0 < cur.size := hlt _ _ hc0
   simp [h0]
  ·rw [cell_of_row _ g _ _ _ (0, 0) w2]
   have h0 : 1 < cur.size := hlt _ _ hc1
   simp [h0]
  ·rw [hcell _ (by omega), ← n2]; exact hc2
  ·rw [hcell _ (by omega), ← n3]; exact hc3
  ·show Zm _ _ _ _ _ (if (0 : Nat) = 0 then f else (se L 0).f)
   rw [if_pos rfl]
   exact hz'.zn.zm
 ·have n1' := (hq'.nu k (by omega)).1
  refine ⟨q[k].z, ?_, ?_, ?_, ?_, ?_, Nat.le_trans n1.le (by decide)⟩
  ·rw [hcell _ (by omega)]; exact hc0
  ·rw [hcell _ (by omega)]; exact hc1
  ·rw [hcell _ (by omega), ← n2]; exact hc2
  ·rw [hcell _ (by omega), ← n3]; exact hc3
  ·show Zm _ _ _ _ _ (if k = 0 then f else (se L k).f)
   rw [if_neg e]
   exact n1'.zm
/-- how many numbers of a stretch are looked at -/
def cnt (F : Nat → Int) (m E k : Nat) : Nat := if k < m then (if F (k + 1) - F k < E then (F (k + 1) - F k).toNat else E) else E
theorem cnt_le (F : Nat → Int) (m E k : Nat) : cnt F m E k ≤ E := by
 unfold cnt
 split
 ·split
  ·omega
  ·exact Nat.le_refl _
 ·exact Nat.le_refl _
theorem agree_all {A B : PD} (hA : Wf A) (hB : Wf B) {L : List SE} (h : Str A.cs B.cs L A.cs.length B.cs.length) {m : Nat} (hm : L.length = m + 1) {f : Int} (hf : 1 ≤ m → f + (A.p + B.p : Nat) = (se L 1).f) :
  (∀ k, k < m + 1 → ∀ t : Nat, t < cnt (fun k => if k = 0 then f else (se L k).f) m (A.p + B.p) k → rmem A.p (rw' A (se L k).i) ((if k = 0 then f else (se L k).f) + t) = rmem B.p (rw' B (se L k).j) ((if k = 0 then f else (se L k).f) + t)) ↔ ∀ x, mem A x = mem B x := by
 have := agree_iff hA hB h (F := fun k => if k = 0 then f else (se L k).f) (C := cnt (fun k => if k = 0 then f else (se L k).f) m (A.p + B.p)) (fun k hk => if_neg (by omega)) (fun k hk => ?_) (fun k hk => ?_)
 ·rw [hm] at this
  exact this
 ·by_cases e : k = 0
  ·subst e
   refine .inl ?_
   unfold cnt
   by_cases e : 0 < m
   ·have := hf e
    rw [if_pos e, if_neg]
    simp only [Nat.zero_add, Nat.one_ne_zero, if_false, if_true]
    omega
   ·rw [if_neg e]
  ·unfold cnt
   by_cases e2 : k < m
   ·rw [if_pos e2]
    have hup := h.up k (by omega) (by omega)
    simp only [e, Nat.succ_ne_zero, if_false]
    by_cases e3 : (se L (k + 1)).f - (se L k).f < ((A.p + B.p : Nat) : Int)
    ·rw [if_pos e3]
     refine .inr ⟨by omega, by omega, ?_⟩
     omega
    ·rw [if_neg e3]
     exact .inl rfl
   ·rw [if_neg e2]
    exact .inl rfl
 ·have hkm : k < m := by omega
  unfold cnt
  rw [if_pos hkm]
  by_cases e : k = 0
  ·subst e
   have := hf (by omega)
   simp only [Nat.zero_add, Nat.one_ne_zero, if_false, if_true]
   rw [if_neg (by omega)]
   omega
  ·have hup := h.up k (by omega) (by omega)
   simp only [e, Nat.succ_ne_zero, if_false]
   split <;> omega
end Pd
end Go.Proofs.YtdepidmmanjlhaaGreat

namespace Go.Proofs.YtdepidmmanjlhaaGreat
open Go.RowKit
namespace Pd

end Pd
end Go.Proofs.YtdepidmmanjlhaaGreat

namespace Go.Proofs.YtdepidmmanjlhaaGreat
open Go.RowKit
namespace Pd

end Pd
end Go.Proofs.YtdepidmmanjlhaaGreat

namespace Go.Proofs.YtdepidmmanjlhaaGreat
open Go.RowKit
namespace Pd

set_option maxRecDepth 100000 in
set_option maxHeartbeats 6400000 in
theorem agree_n {w : World} {bA bB : Nat} {A B : PD} (hA : PS w bA A) (hB : PS w bB B) (hfA : A.cs.length ≤ 536869999) (hfB : B.cs.length ≤ 536869999) :
  Calls Tryz.prog 31 #[.pointer (some ⟨bA, 0, none⟩), .pointer (some ⟨bB, 0, none⟩)] w fun e w' => ∃ b, e = .returned (.bool b) ∧ Below w.heap.size w w' ∧ (b = true ↔ ∀ x, mem A x = mem B x) := by
 have hwA := hide hA.wf
 have hwB := hide hB.wf
 have hp1 := hwA.out.p1
 have hp2 := hwA.out.p2
 have hq1 := hwB.out.p1
 have hq2 := hwB.out.p2
 obtain ⟨vA, sA, cA, -⟩ := hA.blk
 obtain ⟨vB, sB, cB, -⟩ := hB.blk
 have e0 := sA.c0
 have e1 := sA.c1
 have e2 := sB.c0
 have e3 := sB.c1
 have hlA := sA.lt
 have hlB := sB.lt
 have hlcA := hide cA.len
 have hlcB := hide cB.len
 have hst := fun u k => hide (stretches_n (w := u) (cA.below k) (cB.below k) hwA.out.up hwB.out.up (by rw [← hlcA.out]; omega) (by rw [← hlcB.out]; omega))
 replace hA := hide hA
 replace hB := hide hB
 replace cA := hide cA
 replace cB := hide cB
 replace sA := hide sA
 replace sB := hide sB
 go_enter Tryz.func31, Tryz.ntmps31
 go_upto_region 1 with (fail)
 refine wp_region_held_drew (S := (fun w' => w'.cell? ⟨bA, 0, none⟩ = some (.int .i64 A.p) ∧ w'.cell? ⟨bB, 0, none⟩ = some (.int .i64 B.p))) (by kernel_rfl) (⟨(Below.cell (grow_drew (Below.refl _ _)) hlA).trans e0, (Below.cell (grow_drew (Below.refl _ _)) hlB).trans e2⟩) (fun hHeld => ?_)
 show wpAnyH _ _ _ _ _ 10 _ _ _
 have kW := grow_drew (Below.refl w.heap.size w)
 generalize w.drew = wQ at *
 repeat' first
  | with_reducible exact AllReadyH.nil
  | (
   refine wpAnyH_take (i := 0) (oi := ⟨some 11, _, _, _, _, _⟩) (v := ?_) rfl (by decide +kernel) (by decide +kernel) (by decide +kernel) (fun _ _ _ h => h) (Or.inl ⟨by rfl, ?_⟩) (by assumption) ?_
   rotate_left
   ·intro wq hSw; (try dsimp only at hSw); go_simp; (try with_reducible rfl)
   (try simp only [Act.put, List.setIfInBounds_toArray, List.set_cons_zero, List.set_cons_succ]))
  | (
   refine wpAnyH_take (i := 1) (oi := ⟨some 12, _, _, _, _, _⟩) (v := ?_) rfl (by decide +kernel) (by decide +kernel) (by decide +kernel) (fun _ _ _ h => h) (Or.inl ⟨by rfl, ?_⟩) (by assumption) ?_
   rotate_left
   ·intro wq hSw; (try dsimp only at hSw); go_simp; (try with_reducible rfl)
   (try simp only [Act.put, List.setIfInBounds_toArray, List.set_cons_zero, List.set_cons_succ]))
  | (
   refine wpAnyH_take (i := 2) (oi := ⟨some 13, _, _, _, _, _⟩) (v := ?_) rfl (by decide +kernel) (by decide +kernel) (by decide +kernel) (fun _ _ _ h => h) (Or.inl ⟨by rfl, ?_⟩) (by assumption) ?_
   rotate_left
   ·intro wq hSw; (try dsimp only at hSw); go_simp; (try with_reducible rfl)
   (try simp only [Act.put, List.setIfInBounds_toArray, List.set_cons_zero, List.set_cons_succ]))
  | (
   refine wpAnyH_take (i := 3) (oi := ⟨some 14, _, _, _, _, _⟩) (v := ?_) rfl (by decide +kernel) (by decide +kernel) (by decide +kernel) (fun _ _ _ h => h) (Or.inl ⟨by rfl, ?_⟩) (by assumption) ?_
   rotate_left
   ·intro wq hSw; (try dsimp only at hSw); go_simp; (try with_reducible rfl)
   (try simp only [Act.put, List.setIfInBounds_toArray, List.set_cons_zero, List.set_cons_succ]))
  | (
   refine wpAnyH_take (i := 4) (oi := ⟨some 15, _, _, _, _, _⟩) (v := ?_) rfl (by decide +kernel) (by decide +kernel) (by decide +kernel) (fun _ _ _ h => h) (Or.inl ⟨by rfl, ?_⟩) (by assumption) ?_
   rotate_left
   ·intro wq hSw; (try dsimp only at hSw); go_simp; (try with_reducible rfl)
   (try simp only [Act.put, List.setIfInBounds_toArray, List.set_cons_zero, List.set_cons_succ]))
  | (
   refine wpAnyH_take (i := 5) (oi := ⟨some 16, _, _, _, _, _⟩) (v := ?_) rfl (by decide +kernel) (by decide +kernel) (by decide +kernel) (fun _ _ _ h => h) (Or.inl ⟨by rfl, ?_⟩) (by assumption) ?_
   rotate_left
   ·intro wq hSw; (try dsimp only at hSw); go_simp; (try with_reducible rfl)
   (try simp only [Act.put, List.setIfInBounds_toArray, List.set_cons_zero, List.set_cons_succ]))
  | (
   refine wpAnyH_take (i := 6) (oi := ⟨some 17, _, _, _, _, _⟩) (v := ?_) rfl (by decide +kernel) (by decide +kernel) (by decide +kernel) (fun _ _ _ h => h) (Or.inl ⟨by rfl, ?_⟩) (by assumption) ?_
   rotate_left
   ·intro wq hSw; (try dsimp only at hSw); go_simp; (try with_reducible rfl)
   (try simp only [Act.put, List.setIfInBounds_toArray, List.set_cons_zero, List.set_cons_succ]))
  | (
   refine wpAnyH_take (i := 7) (oi := ⟨some 18, _, _, _, _, _⟩) (v := ?_) rfl (by decide +kernel) (by decide +kernel) (by decide +kernel) (fun _ _ _ h => h) (Or.inl ⟨by rfl, ?_⟩) (by assumption) ?_
   rotate_left
   ·intro wq hSw; (try dsimp only at hSw); go_simp; (try with_reducible rfl)
   (try simp only [Act.put, List.setIfInBounds_toArray, List.set_cons_zero, List.set_cons_succ]))
  | (
   refine wpAnyH_take (i := 8) (oi := ⟨some 19, _, _, _, _, _⟩) (v := ?_) rfl (by decide +kernel) (by decide +kernel) (by decide +kernel) (fun _ _ _ h => h) (Or.inl ⟨by rfl, ?_⟩) (by assumption) ?_
   rotate_left
   ·intro wq hSw; (try dsimp only at hSw); go_simp; (try with_reducible rfl)
   (try simp only [Act.put, List.setIfInBounds_toArray, List.set_cons_zero, List.set_cons_succ]))
  | (refine wpAnyH_ready (rs := [9]) ?_ ?_ ?_; decide +kernel; simp)
  | (
   first
    | (
     refine AllReadyH.cons (i := 9) (o := ⟨some 5, _, _, _, _, _⟩) rfl (fun K hK => ?_) ?_
     go_simp)
   refine hK.out _ _ ?_ ?_
   ·first | with_reducible exact trivial | ((try dsimp only); exact ⟨(Below.cell kW hlA).trans e0, (Below.cell kW hlB).trans e2⟩)
   clear hK K hHeld; intro hHeld
   (try simp only [Act.put, List.setIfInBounds_toArray, List.set_cons_zero, List.set_cons_succ]))
 refine wpAnyH_done ?_ ?_ _
 ·decide +kernel
 have k1 := hide kW
 obtain ⟨E, hE⟩ : ∃ E, E = A.p + B.p := ⟨_, rfl⟩
 rw [show IntKind.i64.wrap ((A.p : Int) + (B.p : Int)) = (E : Int) by rw [IntKind.wrap_i64]; omega]
 have hEb : E ≤ 8192 := by omega
 replace hE := hide hE
 clear kW hHeld
 generalize wQ = w1 at *
 go_upto_region 2 with (fail)
 refine wp_region_held_drew (S := (fun w' => w'.cell? ⟨bA, 1, none⟩ = some (.slice vA.ca vA.cn vA.cc) ∧ w'.cell? ⟨bB, 1, none⟩ = some (.slice vB.ca vB.cn vB.cc))) (by kernel_rfl) (⟨(Below.cell (grow_drew k1.out) hlA).trans e1, (Below.cell (grow_drew k1.out) hlB).trans e3⟩) (fun hHeld => ?_)
 show wpAnyH _ _ _ _ _ 10 _ _ _
 have kW := grow_drew k1.out
 generalize hwq : w1.drew = w2 at *
 repeat' first
  | with_reducible exact AllReadyH.nil
  | (
   refine wpAnyH_take (i := 0) (oi := ⟨some 20, _, _, _, _, _⟩) (v := ?_) rfl (by decide +kernel) (by decide +kernel) (by decide +kernel) (fun _ _ _ h => h) (Or.inl ⟨by rfl, ?_⟩) (by assumption) ?_
   rotate_left
   ·intro wq hSw; (try dsimp only at hSw); go_simp; (try with_reducible rfl)
   (try simp only [Act.put, List.setIfInBounds_toArray, List.set_cons_zero, List.set_cons_succ]))
  | (
   refine wpAnyH_take (i := 1) (oi := ⟨some 21, _, _, _, _, _⟩) (v := ?_) rfl (by decide +kernel) (by decide +kernel) (by decide +kernel) (fun _ _ _ h => h) (Or.inl ⟨by rfl, ?_⟩) (by assumption) ?_
   rotate_left
   ·intro wq hSw; (try dsimp only at hSw); go_simp; (try with_reducible rfl)
   (try simp only [Act.put, List.setIfInBounds_toArray, List.set_cons_zero, List.set_cons_succ]))
  | (
   refine wpAnyH_take (i := 2) (oi := ⟨some 22, _, _, _, _, _⟩) (v := ?_) rfl (by decide +kernel) (by decide +kernel) (by decide +kernel) (fun _ _ _ h => h) (Or.inl ⟨by rfl, ?_⟩) (by assumption) ?_
   rotate_left
   ·intro wq hSw; (try dsimp only at hSw); go_simp; (try with_reducible rfl)
   (try simp only [Act.put, List.setIfInBounds_toArray, List.set_cons_zero, List.set_cons_succ]))
  | (
   refine wpAnyH_take (i := 3) (oi := ⟨some 23, _, _, _, _, _⟩) (v := ?_) rfl (by decide +kernel) (by decide +kernel) (by decide +kernel) (fun _ _ _ h => h) (Or.inl ⟨by rfl, ?_⟩) (by assumption) ?_
   rotate_left
   ·intro wq hSw; (try dsimp only at hSw); go_simp; (try with_reducible rfl)
   (try simp only [Act.put, List.setIfInBounds_toArray, List.set_cons_zero, List.set_cons_succ]))
  | (
   refine wpAnyH_take (i := 4) (oi := ⟨some 24, _, _, _, _, _⟩) (v := ?_) rfl (by decide +kernel) (by decide +kernel) (by decide +kernel) (fun _ _ _ h => h) (Or.inl ⟨by rfl, ?_⟩) (by assumption) ?_
   rotate_left
   ·intro wq hSw; (try dsimp only at hSw); go_simp; (try with_reducible rfl)
   (try simp only [Act.put, List.setIfInBounds_toArray, List.set_cons_zero, List.set_cons_succ]))
  | (
   refine wpAnyH_take (i := 5) (oi := ⟨some 25, _, _, _, _, _⟩) (v := ?_) rfl (by decide +kernel) (by decide +kernel) (by decide +kernel) (fun _ _ _ h => h) (Or.inl ⟨by rfl, ?_⟩) (by assumption) ?_
   rotate_left
   ·intro wq hSw; (try dsimp only at hSw); go_simp; (try with_reducible rfl)
   (try simp only [Act.put, List.setIfInBounds_toArray, List.set_cons_zero, List.set_cons_succ]))
  | (
   refine wpAnyH_take (i := 6) (oi := ⟨some 26, _, _, _, _, _⟩) (v := ?_) rfl (by decide +kernel) (by decide +kernel) (by decide +kernel) (fun _ _ _ h => h) (Or.inl ⟨by rfl, ?_⟩) (by assumption) ?_
   rotate_left
   ·intro wq hSw; (try dsimp only at hSw); go_simp; (try with_reducible rfl)
   (try simp only [Act.put, List.setIfInBounds_toArray, List.set_cons_zero, List.set_cons_succ]))
  | (
   refine wpAnyH_take (i := 7) (oi := ⟨some 27, _, _, _, _, _⟩) (v := ?_) rfl (by decide +kernel) (by decide +kernel) (by decide +kernel) (fun _ _ _ h => h) (Or.inl ⟨by rfl, ?_⟩) (by assumption) ?_
   rotate_left
   ·intro wq hSw; (try dsimp only at hSw); go_simp; (try with_reducible rfl)
   (try simp only [Act.put, List.setIfInBounds_toArray, List.set_cons_zero, List.set_cons_succ]))
  | (refine wpAnyH_ready (rs := [8]) ?_ ?_ ?_; decide +kernel; simp)
  | (refine wpAnyH_ready (rs := [9]) ?_ ?_ ?_; decide +kernel; simp)
  | (
   first
    | (
     refine AllReadyH.cons (i := 8) (o := ⟨some 28, _, _, _, _, _⟩) rfl (fun K hK => ?_) ?_
     go_simp
     go_at_call 45; refine Calls.mono (hst _ kW).out ?_; rintro e wC ⟨aS, nS, cS, L, rfl, hels, hstr, hnS, kC, hfr⟩; have hfr2 := fun g off e => Nat.le_trans kW.size (hfr g off e)
     have kW := grow_step kC kW
     try go_wp2_with fail)
    | (
     refine AllReadyH.cons (i := 9) (o := ⟨some 6, _, _, _, _, _⟩) rfl (fun K hK => ?_) ?_
     go_simp)
   refine hK.out _ _ ?_ ?_
   ·first | with_reducible exact trivial | ((try dsimp only); exact ⟨(Below.cell kW hlA).trans e1, (Below.cell kW hlB).trans e3⟩)
   clear hK K hHeld; intro hHeld
   (try simp only [Act.put, List.setIfInBounds_toArray, List.set_cons_zero, List.set_cons_succ]))
 refine wpAnyH_done ?_ ?_ _
 ·decide +kernel
 have kS := hide kW
 have hAS := hide (hA.out.below kW)
 have hBS := hide (hB.out.below kW)
 clear kW kC hHeld hst e0 e1 e2 e3 hlA hlB cA cB sA sB hfr
 generalize wC = w3 at *
 have hst := hide hstr
 have hnL : Hid (L.length = nS) := hide hels.len
 obtain ⟨m, rfl⟩ : ∃ m, nS = m + 1 := ⟨nS - 1, by have := hstr.ne; have := hels.len; omega⟩
 have hmb : m ≤ 1073741000 := by have := hlcA.out; have := hlcB.out; omega
 obtain ⟨k0, hk0⟩ : ∃ k0, min 1 m = k0 := ⟨_, rfl⟩
 obtain ⟨g, z0, rfl, hgl, d0, d1, -, -, hz0⟩ := hels.get (show k0 < m + 1 by omega)
 have hgw := hide (hfr2 g 0 rfl)
 clear hstr hfr2 hnS
 obtain ⟨g', zz, hge, -, d2, d3, -, -, -⟩ := hels.get (show 0 < m + 1 by omega)
 cases hge
 rw [Nat.zero_mul] at d2 d3
 rw [Nat.zero_add] at d3
 have hfz : ∀ u : World, Below w3.heap.size w3 u → ∀ i : Nat, u.frozen? ⟨g, i, none⟩ = false := fun u k i => by
  obtain ⟨b, e, ho, -⟩ := hels.at'
  cases e
  obtain ⟨cur, h⟩ := ho.below k
  exact frozen_of_row u g i _ _ h
 replace hz0 := hide hz0
 replace hels := hide hels
 have hmin : min 1 (m : Int) = (k0 : Int) := by omega
 have hklt : (k0 : Int) < (m : Int) + 1 := by omega
 replace hk0 := hide hk0
 go_upto_region 4 with (fail)
 refine wp_region_held_drew (S := (fun _ => True)) (by kernel_rfl) (True.intro) (fun hHeld => ?_)
 show wpAnyH _ _ _ _ _ 13 _ _ _
 have kX := grow_drew (Below.refl w3.heap.size w3)
 generalize w3.drew = wX at *
 repeat' first
  | with_reducible exact AllReadyH.nil
  | (
   refine wpAnyH_take (i := 0) (oi := ⟨some 32, _, _, _, _, _⟩) (v := ?_) rfl (by decide +kernel) (by decide +kernel) (by decide +kernel) (fun _ _ _ h => h) (Or.inl ⟨by rfl, ?_⟩) (by assumption) ?_
   rotate_left
   ·intro wq hSw; (try dsimp only at hSw); go_simp; (try with_reducible rfl)
   (try simp only [Act.put, List.setIfInBounds_toArray, List.set_cons_zero, List.set_cons_succ]))
  | (
   refine wpAnyH_take (i := 1) (oi := ⟨some 33, _, _, _, _, _⟩) (v := ?_) rfl (by decide +kernel) (by decide +kernel) (by decide +kernel) (fun _ _ _ h => h) (Or.inl ⟨by rfl, ?_⟩) (by assumption) ?_
   rotate_left
   ·intro wq hSw; (try dsimp only at hSw); go_simp; (try with_reducible rfl)
   (try simp only [Act.put, List.setIfInBounds_toArray, List.set_cons_zero, List.set_cons_succ]))
  | (
   refine wpAnyH_take (i := 2) (oi := ⟨some 34, _, _, _, _, _⟩) (v := ?_) rfl (by decide +kernel) (by decide +kernel) (by decide +kernel) (fun _ _ _ h => h) (Or.inl ⟨by rfl, ?_⟩) (by assumption) ?_
   rotate_left
   ·intro wq hSw; (try dsimp only at hSw); go_simp; (try with_reducible rfl)
   (try simp only [Act.put, List.setIfInBounds_toArray, List.set_cons_zero, List.set_cons_succ]))
  | (
   refine wpAnyH_take (i := 3) (oi := ⟨some 35, _, _, _, _, _⟩) (v := ?_) rfl (by decide +kernel) (by decide +kernel) (by decide +kernel) (fun _ _ _ h => h) (Or.inl ⟨by rfl, ?_⟩) (by assumption) ?_
   rotate_left
   ·intro wq hSw; (try dsimp only at hSw); go_simp; (try with_reducible rfl)
   (try simp only [Act.put, List.setIfInBounds_toArray, List.set_cons_zero, List.set_cons_succ]))
  | (
   refine wpAnyH_take (i := 4) (oi := ⟨some 36, _, _, _, _, _⟩) (v := ?_) rfl (by decide +kernel) (by decide +kernel) (by decide +kernel) (fun _ _ _ h => h) (Or.inl ⟨by rfl, ?_⟩) (by assumption) ?_
   rotate_left
   ·intro wq hSw; (try dsimp only at hSw); go_simp; (try with_reducible rfl)
   (try simp only [Act.put, List.setIfInBounds_toArray, List.set_cons_zero, List.set_cons_succ]))
  | (
   refine wpAnyH_take (i := 5) (oi := ⟨some 37, _, _, _, _, _⟩) (v := ?_) rfl (by decide +kernel) (by decide +kernel) (by decide +kernel) (fun _ _ _ h => h) (Or.inl ⟨by rfl, ?_⟩) (by assumption) ?_
   rotate_left
   ·intro wq hSw; (try dsimp only at hSw); go_simp; (try with_reducible rfl)
   (try simp only [Act.put, List.setIfInBounds_toArray, List.set_cons_zero, List.set_cons_succ]))
  | (
   refine wpAnyH_take (i := 7) (oi := ⟨some 39, _, _, _, _, _⟩) (v := ?_) rfl (by decide +kernel) (by decide +kernel) (by decide +kernel) (fun _ _ _ h => h) (Or.inl ⟨by rfl, ?_⟩) (by assumption) ?_
   rotate_left
   ·intro wq hSw; (try dsimp only at hSw); go_simp; (try with_reducible rfl)
   (try simp only [Act.put, List.setIfInBounds_toArray, List.set_cons_zero, List.set_cons_succ]))
  | (
   refine wpAnyH_take (i := 10) (oi := ⟨some 42, _, _, _, _, _⟩) (v := ?_) rfl (by decide +kernel) (by decide +kernel) (by decide +kernel) (fun _ _ _ h => h) (Or.inl ⟨by rfl, ?_⟩) (by assumption) ?_
   rotate_left
   ·intro wq hSw; (try dsimp only at hSw); go_simp; (try with_reducible rfl)
   (try simp only [Act.put, List.setIfInBounds_toArray, List.set_cons_zero, List.set_cons_succ]))
  | (
   refine wpAnyH_take (i := 11) (oi := ⟨some 43, _, _, _, _, _⟩) (v := ?_) rfl (by decide +kernel) (by decide +kernel) (by decide +kernel) (fun _ _ _ h => h) (Or.inl ⟨by rfl, ?_⟩) (by assumption) ?_
   rotate_left
   ·intro wq hSw; (try dsimp only at hSw); go_simp; (try with_reducible rfl)
   (try simp only [Act.put, List.setIfInBounds_toArray, List.set_cons_zero, List.set_cons_succ]))
  | (refine wpAnyH_ready (rs := [6, 8]) ?_ ?_ ?_; decide +kernel; simp)
  | (refine wpAnyH_ready (rs := [8]) ?_ ?_ ?_; decide +kernel; simp)
  | (refine wpAnyH_ready (rs := [9]) ?_ ?_ ?_; decide +kernel; simp)
  | (refine wpAnyH_ready (rs := [12]) ?_ ?_ ?_; decide +kernel; simp)
  | (refine wpAnyH_ready (rs := [6]) ?_ ?_ ?_; decide +kernel; simp)
  | (
   first
    | (
     refine AllReadyH.cons (i := 6) (o := ⟨some 38, _, _, _, _, _⟩) rfl (fun K hK => ?_) ?_
     have c0 := (Below.cell (p := ⟨g, k0 * 4, none⟩) kX hgl).trans d0
     have c1 := (Below.cell (p := ⟨g, k0 * 4 + 1, none⟩) kX hgl).trans d1
     go_simp
     clear c0 c1)
    | (
     refine AllReadyH.cons (i := 8) (o := ⟨some 40, _, _, _, _, _⟩) rfl (fun K hK => ?_) ?_
     go_simp
     go_at_call 15; refine Calls.mono (Fresh.zof_n (B := 0) (E : Int) (by omega) (by omega) _ (Nat.zero_le _)) ?_; rintro e wO ⟨sO, aO, lO, cO, rfl, hzO, kO, hlO⟩
     have kX := grow_step kO kX
     try go_wp2_with fail)
    | (
     refine AllReadyH.cons (i := 9) (o := ⟨some 41, _, _, _, _, _⟩) rfl (fun K hK => ?_) ?_
     go_simp
     go_at_call 63; refine Calls.mono (Fresh.zsub_n (B := 0) (Fresh.zm_of (hz0.out.zm.below kX) (Nat.zero_le _)) (Fresh.zm_of hzO.zn.zm (Nat.zero_le _)) hz0.out.len (by omega)) ?_; rintro e wC ⟨sC, aC, lC, cC, rfl, hzC, kC, hlC⟩
     have kX := grow_step kC kX
     try go_wp2_with fail)
    | (
     refine AllReadyH.cons (i := 12) (o := ⟨none, _, _, _, _, _⟩) rfl (fun K hK => ?_) ?_
     have f0 := (Below.cell (p := ⟨g, 0, none⟩) kX hgl).trans d2
     have f1 := (Below.cell (p := ⟨g, 1, none⟩) kX hgl).trans d3
     have f2 := hfz _ kX 0
     have f3 := hfz _ kX 1
     go_simp
     clear f0 f1 f2 f3)
   refine hK.out _ _ ?_ ?_
   ·first | with_reducible exact trivial | ((try dsimp only); exact True.intro)
   clear hK K hHeld; intro hHeld
   (try simp only [Act.put, List.setIfInBounds_toArray, List.set_cons_zero, List.set_cons_succ]))
 all_goals
  refine wpAnyH_done ?_ ?_ _
  ·decide +kernel
  obtain ⟨F, hF⟩ : ∃ F : Nat → Int, F = fun k => if k = 0 then (se L k0).f - (E : Int) else (se L k).f := ⟨_, rfl⟩
  have hel : Hid (EL2 _ g (m + 1) L F) := hide (by rw [hF]; exact el_first (z := ⟨sC, aC, lC, cC⟩) (hels.out.below kX) (Nat.succ_le_succ (Nat.zero_le m)) hzC (by have := hz0.out.le; show lC ≤ _; omega))
  have k4 := hide (((grow_step kX kS.out).setCell (p := ⟨g, 0, none⟩) hgw.out (.bool sC)).setCell (p := ⟨g, 1, none⟩) hgw.out (.slice aC lC cC))
  have hag : Hid ((∀ k, k < m + 1 → ∀ t : Nat, t < cnt F m E k → rmem A.p (rw' A (se L k).i) (F k + t) = rmem B.p (rw' B (se L k).j) (F k + t)) ↔ ∀ x, mem A x = mem B x) := hide (by
   rw [hF, hE.out]
   refine agree_all hwA.out hwB.out hst.out hnL.out fun h1 => ?_
   have := hk0.out
   rw [show k0 = 1 by omega]
   omega)
  have hpos : ∀ k, k < m → 0 ≤ F (k + 1) - F k := fun k hk => by
   rw [hF]
   dsimp only
   rw [if_neg (by omega)]
   by_cases e : k = 0
   ·subst e
    have := hk0.out
    rw [if_pos rfl, show k0 = 1 by omega, Nat.zero_add]
    omega
   ·rw [if_neg e]
    have := hst.out.up k (by omega) (by rw [hnL.out]; omega)
    omega
  replace hF := hide hF
  replace hpos := hide hpos
  clear kX hHeld d0 d1 d2 d3 hfz hzC kC kO hzO hlC hlO hz0 hels hgw kS hAS hBS kW hmin hklt hgl
  generalize (wC.setCell ⟨g, 0, none⟩ (.bool sC)).setCell ⟨g, 1, none⟩ (.slice aC lC cC) = w4 at *
  go_wp2_with fail
  go_loopw [46] (fun vi wr => ∃ k : Nat, k ≤ m + 1 ∧ vi = .int .i64 k ∧ (∀ j, j < k → ∀ t : Nat, t < cnt F m E j → rmem A.p (rw' A (se L j).i) (F j + t) = rmem B.p (rw' B (se L j).j) (F j + t)) ∧ Below w4.heap.size w4 wr) (fun vi _ => m + 1 - (intOf vi).toNat)
  case atStart => exact ⟨0, Nat.zero_le _, rfl, fun j h => by omega, Below.refl _ _⟩
  case round =>
   obtain ⟨k, hk, rfl, hall, kr⟩ := hrel
   replace hall := hide hall
   by_cases hkn : k < m + 1
   ·obtain ⟨z, c0, c1, c2, c3, hz, hzl⟩ := (hel.out.below kr).2 k hkn
    obtain ⟨hiA, hiB⟩ := hst.out.idx k (by rw [hnL.out]; exact hkn)
    replace hiA : (se L k).i < A.rs.length := by have := hwA.out.len; omega
    replace hiB : (se L k).j < B.rs.length := by have := hwB.out.len; omega
    have hknI : (k : Int) < (m : Int) + 1 := by omega
    have ba := below_alloc wr (.cells #[.bool z.s, .slice z.a z.l z.c, .int .i64 (se L k).i, .int .i64 (se L k).j] 88)
    have ye : EB (wr.alloc (.cells #[.bool z.s, .slice z.a z.l z.c, .int .i64 (se L k).i, .int .i64 (se L k).j] 88)) wr.heap.size ⟨z, (se L k).i, (se L k).j⟩ := heap_alloc_new wr _
    have kra := hide (grow_step ba kr)
    have hz1 := hide (hz.below ba)
    have hel1 := hide (hel.out.below kra.out)
    have hgl := hel1.out.1
    have hkh := hide hall
    clear hz kr
    by_cases hkm : k < m
    ·obtain ⟨kq, hkq⟩ : ∃ kq, kq = k + 1 := ⟨_, rfl⟩
     obtain ⟨z2, y0, y1, -, -, hy, hyl⟩ := hel1.out.2 kq (by omega)
     have hwk : IntKind.i64.wrap ((k : Int) + 1) = (kq : Int) := by rw [IntKind.wrap_i64]; omega
     have hlt : decide (k < m) = true := by rw [decide_eq_true_eq]; exact hkm
     have hltI : (kq : Int) < (m : Int) + 1 := by omega
     have hFq : F kq = F (k + 1) := by rw [hkq]
     rw [hFq] at hy
     replace hkq := hide hkq
     clear hFq
     replace hy := hide hy
     have hpk : Hid (0 ≤ F (k + 1) - F k) := hide (hpos.out k hkm)
     obtain ⟨cN, hcN⟩ : ∃ cN, cnt F m E k = cN := ⟨_, rfl⟩
     have hcl : cN ≤ E := by rw [← hcN]; exact cnt_le _ _ _ _
     have hcnt : Hid ((if F (k + 1) - F k < (E : Int) then F (k + 1) - F k else (E : Int)) = (cN : Int)) := hide (by
      have := hpk.out
      rw [← hcN]
      unfold cnt
      rw [if_pos hkm]
      split <;> omega)
     replace hcN := hide hcN
     go_upto_region 10 with (fail)
     clear c0 c1 c2 c3
     generalize wr.alloc (.cells #[.bool z.s, .slice z.a z.l z.c, .int .i64 (se L k).i, .int .i64 (se L k).j] 88) = wa at *
     generalize wr.heap.size = bt at *
     replace ye := hide ye
     clear ba
     refine wp_region_held_drew (S := (fun w' => w'.cell? ⟨g, kq * 4, none⟩ = some (.bool z2.s) ∧ w'.cell? ⟨g, kq * 4 + 1, none⟩ = some (.slice z2.a z2.l z2.c) ∧ w'.cell? ⟨bt, 0, none⟩ = some (.bool z.s) ∧ w'.cell? ⟨bt, 1, none⟩ = some (.slice z.a z.l z.c))) (by kernel_rfl) (⟨(Below.cell (grow_drew (Below.refl _ _)) hgl).trans y0, (Below.cell (grow_drew (Below.refl _ _)) hgl).trans y1, (ye.out.below (grow_drew (Below.refl _ _))).c0, (ye.out.below (grow_drew (Below.refl _ _))).c1⟩) (fun hHeld => ?_)
     show wpAnyH _ _ _ _ _ 12 _ _ _
     have kW := grow_drew (Below.refl wa.heap.size wa)
     generalize wa.drew = wQ at *
     repeat' first
      | with_reducible exact AllReadyH.nil
      | (
       refine wpAnyH_take (i := 0) (oi := ⟨some 55, _, _, _, _, _⟩) (v := ?_) rfl (by decide +kernel) (by decide +kernel) (by decide +kernel) (fun _ _ _ h => h) (Or.inl ⟨by rfl, ?_⟩) (by assumption) ?_
       rotate_left
       ·intro wq hSw; (try dsimp only at hSw); go_simp; (try with_reducible rfl)
       (try simp only [Act.put, List.setIfInBounds_toArray, List.set_cons_zero, List.set_cons_succ]))
      | (
       refine wpAnyH_take (i := 1) (oi := ⟨some 56, _, _, _, _, _⟩) (v := ?_) rfl (by decide +kernel) (by decide +kernel) (by decide +kernel) (fun _ _ _ h => h) (Or.inl ⟨by rfl, ?_⟩) (by assumption) ?_
       rotate_left
       ·intro wq hSw; (try dsimp only at hSw); go_simp; (try with_reducible rfl)
       (try simp only [Act.put, List.setIfInBounds_toArray, List.set_cons_zero, List.set_cons_succ]))
      | (
       refine wpAnyH_take (i := 2) (oi := ⟨some 57, _, _, _, _, _⟩) (v := ?_) rfl (by decide +kernel) (by decide +kernel) (by decide +kernel) (fun _ _ _ h => h) (Or.inl ⟨by rfl, ?_⟩) (by assumption) ?_
       rotate_left
       ·intro wq hSw; (try dsimp only at hSw); go_simp; (try with_reducible rfl)
       (try simp only [Act.put, List.setIfInBounds_toArray, List.set_cons_zero, List.set_cons_succ]))
      | (
       refine wpAnyH_take (i := 3) (oi := ⟨some 58, _, _, _, _, _⟩) (v := ?_) rfl (by decide +kernel) (by decide +kernel) (by decide +kernel) (fun _ _ _ h => h) (Or.inl ⟨by rfl, ?_⟩) (by assumption) ?_
       rotate_left
       ·intro wq hSw; (try dsimp only at hSw); go_simp; (try with_reducible rfl)
       (try simp only [Act.put, List.setIfInBounds_toArray, List.set_cons_zero, List.set_cons_succ]))
      | (
       refine wpAnyH_take (i := 4) (oi := ⟨some 59, _, _, _, _, _⟩) (v := ?_) rfl (by decide +kernel) (by decide +kernel) (by decide +kernel) (fun _ _ _ h => h) (Or.inl ⟨by rfl, ?_⟩) (by assumption) ?_
       rotate_left
       ·intro wq hSw; (try dsimp only at hSw); go_simp; (try with_reducible rfl)
       (try simp only [Act.put, List.setIfInBounds_toArray, List.set_cons_zero, List.set_cons_succ]))
      | (
       refine wpAnyH_take (i := 5) (oi := ⟨some 60, _, _, _, _, _⟩) (v := ?_) rfl (by decide +kernel) (by decide +kernel) (by decide +kernel) (fun _ _ _ h => h) (Or.inl ⟨by rfl, ?_⟩) (by assumption) ?_
       rotate_left
       ·intro wq hSw; (try dsimp only at hSw); go_simp; (try with_reducible rfl)
       (try simp only [Act.put, List.setIfInBounds_toArray, List.set_cons_zero, List.set_cons_succ]))
      | (
       refine wpAnyH_take (i := 6) (oi := ⟨some 61, _, _, _, _, _⟩) (v := ?_) rfl (by decide +kernel) (by decide +kernel) (by decide +kernel) (fun _ _ _ h => h) (Or.inl ⟨by rfl, ?_⟩) (by assumption) ?_
       rotate_left
       ·intro wq hSw; (try dsimp only at hSw); go_simp; (try with_reducible rfl)
       (try simp only [Act.put, List.setIfInBounds_toArray, List.set_cons_zero, List.set_cons_succ]))
      | (
       refine wpAnyH_take (i := 7) (oi := ⟨some 62, _, _, _, _, _⟩) (v := ?_) rfl (by decide +kernel) (by decide +kernel) (by decide +kernel) (fun _ _ _ h => h) (Or.inl ⟨by rfl, ?_⟩) (by assumption) ?_
       rotate_left
       ·intro wq hSw; (try dsimp only at hSw); go_simp; (try with_reducible rfl)
       (try simp only [Act.put, List.setIfInBounds_toArray, List.set_cons_zero, List.set_cons_succ]))
      | (
       refine wpAnyH_take (i := 9) (oi := ⟨some 64, _, _, _, _, _⟩) (v := ?_) rfl (by decide +kernel) (by decide +kernel) (by decide +kernel) (fun _ _ _ h => h) (Or.inl ⟨by rfl, ?_⟩) (by assumption) ?_
       rotate_left
       ·intro wq hSw; (try dsimp only at hSw); go_simp; (try with_reducible rfl)
       (try simp only [Act.put, List.setIfInBounds_toArray, List.set_cons_zero, List.set_cons_succ]))
      | (refine wpAnyH_ready (rs := [8]) ?_ ?_ ?_; decide +kernel; simp)
      | (refine wpAnyH_ready (rs := [10]) ?_ ?_ ?_; decide +kernel; simp)
      | (refine wpAnyH_ready (rs := [11]) ?_ ?_ ?_; decide +kernel; simp)
      | (
       first
        | (
         refine AllReadyH.cons (i := 8) (o := ⟨some 63, _, _, _, _, _⟩) rfl (fun K hK => ?_) ?_
         go_simp
         go_at_call 63; refine Calls.mono (zsub_n (hy.out.below kW) (hz1.out.below kW) (by omega) (by omega)) ?_; rintro e wD ⟨sD, aD, lD, cD, rfl, hzD, kD, hlD⟩
         have kW := grow_step kD kW
         try go_wp2_with fail)
        | (
         refine AllReadyH.cons (i := 10) (o := ⟨some 65, _, _, _, _, _⟩) rfl (fun K hK => ?_) ?_
         go_simp
         go_at_call 64; refine Calls.mono (atMost_n (z := ⟨sD, aD, lD, cD⟩) hzD.zm (by show lD ≤ 1099511627776; omega) hpk.out hEb) ?_; rintro e wM ⟨rfl, kM⟩; (try rw [hcnt.out])
         have kW := grow_step kM kW
         try go_wp2_with fail)
        | (
         refine AllReadyH.cons (i := 11) (o := ⟨some 10, _, _, _, _, _⟩) rfl (fun K hK => ?_) ?_
         go_simp)
       refine hK.out _ _ ?_ ?_
       ·first | with_reducible exact trivial | ((try dsimp only); exact ⟨(Below.cell kW hgl).trans y0, (Below.cell kW hgl).trans y1, (ye.out.below kW).c0, (ye.out.below kW).c1⟩)
       clear hK K hHeld; intro hHeld
       (try simp only [Act.put, List.setIfInBounds_toArray, List.set_cons_zero, List.set_cons_succ]))
     refine wpAnyH_done ?_ ?_ _
     ·decide +kernel
     have kX := hide kW
     clear kW hHeld hwk kD kM hzD hlD hy y0 y1 hpk hcnt
     generalize wM = w5 at *
     have kT := hide (grow_step kX.out kra.out)
     have kA := hide (grow_step kT.out k4.out)
     have yX := ye.out.below kX.out
     have x0 := yX.c0
     have x1 := yX.c1
     have x2 := yX.c2
     have x3 := yX.c3
     have hag1 := hide (agreeAt_n (z := z) (i := (se L k).i) (j := (se L k).j) (hA.out.below kA.out) (hB.out.below kA.out) (hz1.out.below kX.out) (by omega) hiA hiB (show cN ≤ 8192 by omega))
     clear yX hz1
     go_wp2_with fail
     refine hag1.out.mono ?_
     rintro e w6 ⟨b, rfl, k6, hb⟩
     have hb1 := hide hb
     have kf := hide (grow_step k6 kA.out)
     have kg := hide (grow_step k6 kT.out)
     clear hag1 x0 x1 x2 x3 hb k6
     cases b
     ·have hno : Hid (¬ ∀ x, mem A x = mem B x) := hide fun h => (by have := hb1.out.2 (by rw [← hcN.out]; exact hag.out.2 h k hkn); cases this)
      go_wp2
      exact bodyPost_ret (results_tmp rfl _ _ _) rfl ⟨false, rfl, kf.out, ⟨fun h => (by cases h), fun h => absurd h hno.out⟩⟩
     ·have hyes := hide (hb1.out.1 rfl)
      go_wp2
      go_roundw
      case measure => simp [intOf]; omega
      case rel => exact ⟨k + 1, by omega, by go_num, fun j hj t ht => (by
       by_cases e : j = k
       ·subst e
        rw [hcN.out] at ht
        exact hyes.out t ht
       ·exact hkh.out j (by omega) t ht), kg.out⟩
    ·obtain ⟨cN, hcN⟩ : ∃ cN, E = cN := ⟨_, rfl⟩
     subst hcN
     have hcl : E ≤ E := Nat.le_refl _
     have hcN : Hid (cnt F m E k = E) := hide (by unfold cnt; rw [if_neg hkm])
     have hlt : decide (k < m) = false := by rw [decide_eq_false_iff_not]; exact hkm
     go_upto_region 11 with (fail)
     clear c0 c1 c2 c3
     have kX := hide (Below.refl (wr.alloc (.cells #[.bool z.s, .slice z.a z.l z.c, .int .i64 (se L k).i, .int .i64 (se L k).j] 88)).heap.size (wr.alloc (.cells #[.bool z.s, .slice z.a z.l z.c, .int .i64 (se L k).i, .int .i64 (se L k).j] 88)))
     generalize wr.alloc (.cells #[.bool z.s, .slice z.a z.l z.c, .int .i64 (se L k).i, .int .i64 (se L k).j] 88) = w5 at *
     generalize wr.heap.size = bt at *
     replace ye := hide ye
     clear ba
     have kT := hide (grow_step kX.out kra.out)
     have kA := hide (grow_step kT.out k4.out)
     have yX := ye.out.below kX.out
     have x0 := yX.c0
     have x1 := yX.c1
     have x2 := yX.c2
     have x3 := yX.c3
     have hag1 := hide (agreeAt_n (z := z) (i := (se L k).i) (j := (se L k).j) (hA.out.below kA.out) (hB.out.below kA.out) (hz1.out.below kX.out) (by omega) hiA hiB (show E ≤ 8192 by omega))
     clear yX hz1
     go_wp2_with fail
     refine hag1.out.mono ?_
     rintro e w6 ⟨b, rfl, k6, hb⟩
     have hb1 := hide hb
     have kf := hide (grow_step k6 kA.out)
     have kg := hide (grow_step k6 kT.out)
     clear hag1 x0 x1 x2 x3 hb k6
     cases b
     ·have hno : Hid (¬ ∀ x, mem A x = mem B x) := hide fun h => (by have := hb1.out.2 (by rw [← hcN.out]; exact hag.out.2 h k hkn); cases this)
      go_wp2
      exact bodyPost_ret (results_tmp rfl _ _ _) rfl ⟨false, rfl, kf.out, ⟨fun h => (by cases h), fun h => absurd h hno.out⟩⟩
     ·have hyes := hide (hb1.out.1 rfl)
      go_wp2
      go_roundw
      case measure => simp [intOf]; omega
      case rel => exact ⟨k + 1, by omega, by go_num, fun j hj t ht => (by
       by_cases e : j = k
       ·subst e
        rw [hcN.out] at ht
        exact hyes.out t ht
       ·exact hkh.out j (by omega) t ht), kg.out⟩
   ·obtain rfl : k = m + 1 := by omega
    have hfin : Hid (∀ x, mem A x = mem B x) := hide (hag.out.1 fun j hj t ht => hall.out j hj t ht)
    have kf := hide (grow_step kr k4.out)
    clear kr
    go_wp2
    exact bodyPost_ret (results_tmp rfl _ _ _) rfl ⟨true, rfl, kf.out, ⟨fun _ => hfin.out, fun _ => rfl⟩⟩
end Pd
end Go.Proofs.YtdepidmmanjlhaaGreat

namespace Go.Proofs.YtdepidmmanjlhaaGreat
open Go.RowKit
namespace Pd

set_option maxRecDepth 100000 in
set_option maxHeartbeats 1600000 in
theorem same_n {w : World} {bA bB : Nat} {A B : PD} (hA : PS w bA A) (hB : PS w bB B) (hfA : A.cs.length ≤ 536869999) (hfB : B.cs.length ≤ 536869999) :
  Calls Tryz.prog 10 #[.pointer (some ⟨bA, 0, none⟩), .pointer (some ⟨bB, 0, none⟩)] w fun e w' => ∃ b, e = .returned (.bool b) ∧ Below w.heap.size w w' ∧ (b = true ↔ ∀ x, mem A x = mem B x) := by
 have hj := hide (agree_n hA hB hfA hfB)
 go_enter Tryz.func10, Tryz.ntmps10
 go_wp2_with fail
 refine hj.out.mono ?_
 rintro e w1 ⟨b, rfl, k1, h1⟩
 replace h1 := hide h1
 clear hj
 go_wp2
 exact bodyPost_ret (results_tmp rfl _ _ _) rfl ⟨b, rfl, k1, h1.out⟩
set_option maxRecDepth 100000 in
set_option maxHeartbeats 1600000 in
theorem same_nil {w : World} {bA : Nat} :
  Calls Tryz.prog 10 #[.pointer (some ⟨bA, 0, none⟩), .pointer none] w fun e w' => e = .returned (.bool false) ∧ w' = w := by
 go_enter Tryz.func10, Tryz.ntmps10
 go_wp2
 exact bodyPost_ret (results_tmp rfl _ _ _) rfl ⟨rfl, rfl⟩
end Pd
end Go.Proofs.YtdepidmmanjlhaaGreat

namespace Go.Proofs.YtdepidmmanjlhaaGreat
open Go.RowKit
namespace Pd

end Pd
end Go.Proofs.YtdepidmmanjlhaaGreat

namespace Go.Proofs.YtdepidmmanjlhaaGreat
open Go.RowKit
namespace Pd

end Pd
end Go.Proofs.YtdepidmmanjlhaaGreat

namespace Go.Proofs.YtdepidmmanjlhaaGreat
open Go.RowKit
namespace Pd

end Pd
end Go.Proofs.YtdepidmmanjlhaaGreat

namespace Go.Proofs.YtdepidmmanjlhaaGreat
open Go.RowKit
namespace Pd

end Pd
end Go.Proofs.YtdepidmmanjlhaaGreat

namespace Go.Proofs.YtdepidmmanjlhaaGreat
open Go.RowKit
namespace Pd

set_option maxRecDepth 100000 in
set_option maxHeartbeats 3200000 in
theorem ints_t {s : Bool} {a1 a2 : Option Addr} {l c1 c2 : Nat} {zs : List Int} {w : World} (h1 : Rd w a1 l c1 zs) (h2 : Rd w a2 l c2 zs) :
  Calls Tryz.prog 19 #[.agg #[.bool s, .slice a1 l c1], .agg #[.bool s, .slice a2 l c2]] w fun e w' => e = .returned (.bool true) ∧ Below w.heap.size w w' := by
 have hll := h1.2.1
 have hlc := h1.2.2.1
 have hss : (s != s) = false := by simp
 have hnn : ((l : Int) != (l : Int)) = false := by simp
 go_enter Tryz.func19, Tryz.ntmps19
 go_wp2_with fail
 have b0 : Below w.heap.size w ((w.alloc (.cells #[.bool s, .slice a1 l c1] 24)).alloc (.cells #[.bool s, .slice a2 l c2] 24)) := below_alloc' (below_alloc _ _) _
 have y1 := Bk.below (heap_alloc_new w (.cells #[.bool s, .slice a1 l c1] 24)) (below_alloc _ (.cells #[.bool s, .slice a2 l c2] 24))
 have y2 : ((w.alloc (.cells #[.bool s, .slice a1 l c1] 24)).alloc (.cells #[.bool s, .slice a2 l c2] 24)).heap[w.heap.size + 1]? = some (.cells #[.bool s, .slice a2 l c2] 24 (0, 0)) := by
  have := heap_alloc_new (w.alloc (.cells #[.bool s, .slice a1 l c1] 24)) (.cells #[.bool s, .slice a2 l c2] 24)
  simpa using this
 replace h1 := h1.below b0
 replace h2 := h2.below b0
 generalize (w.alloc (.cells #[.bool s, .slice a1 l c1] 24)).alloc (.cells #[.bool s, .slice a2 l c2] 24) = wb at *
 have p0 := cell_of_row wb _ 0 _ _ (0, 0) y1
 have p1 := cell_of_row wb _ 1 _ _ (0, 0) y1
 have q0 := cell_of_row wb _ 0 _ _ (0, 0) y2
 have q1 := cell_of_row wb _ 1 _ _ (0, 0) y2
 go_loopw [5] (fun i wr => ∃ (k n : Nat), k ≤ l ∧ i = .int .i64 k ∧ wr = wb.drewN n) (fun i _ => l - (intOf i).toNat)
 case atStart => exact ⟨0, 0, Nat.zero_le _, rfl, rfl⟩
 case round =>
  obtain ⟨k, n, hk, rfl, rfl⟩ := hrel
  by_cases hkl : k < l
  ·obtain ⟨_, _, _, hL, ⟨rfl, e, _⟩ | ⟨x1, rfl, e | ⟨b1, o1, rfl, hb1, hc1⟩⟩⟩ := h1
   ·omega
   ·omega
   obtain ⟨_, _, _, _, ⟨rfl, e, _⟩ | ⟨x2, rfl, e | ⟨b2, o2, rfl, hb2, hc2⟩⟩⟩ := h2
   ·omega
   ·omega
   have u1 := hc1 k hkl
   have u2 := hc2 k hkl
   have hbd := lz_bd hL k
   clear hc1 hc2
   generalize lz zs k = z at *
   go_wp2_with fail
   go_quiet (fail)
   go_wp2_with fail
   exact ⟨⟨k + 1, n + nq, by omega, by go_num, rfl⟩, by simp [intOf]; omega⟩
  ·obtain rfl : k = l := by omega
   go_wp2_with fail
   go_ret
   exact ⟨rfl, b0.trans (below_drewN _ _ _)⟩
/-- two numbers that stand and are the same -/
theorem ints_zn {z y : ZV} {x : Int} {w : World} (h1 : Zn w z.s z.a z.l z.c x) (h2 : Zn w y.s y.a y.l y.c x) : Calls Tryz.prog 19 #[.agg #[.bool z.s, .slice z.a z.l z.c], .agg #[.bool y.s, .slice y.a y.l y.c]] w fun e w' => e = .returned (.bool true) ∧ Below w.heap.size w w' := by
 obtain ⟨hs, hl⟩ := zn_same h1 h2
 obtain ⟨n, ⟨zs, hr, hc, hv⟩, hx, -⟩ := h1
 obtain ⟨n', ⟨zs', hr', hc', hv'⟩, hx', -⟩ := h2
 have b1 := val_nonneg hr.2.2.2.1
 have b2 := val_nonneg hr'.2.2.2.1
 have e : n = n' := by
  rw [hx] at hx'
  unfold sg at hx'
  split at hx' <;> split at hx' <;> omega
 subst e
 have := canon_inj hc hc' (hv.trans hv'.symm)
 subst this
 obtain ⟨s, a, l, c⟩ := z
 obtain ⟨s', a', l', c'⟩ := y
 dsimp only at hs hl hr hr'
 subst hs hl
 exact ints_t hr hr'
/-- without cuts what is in a set comes again with its period -/
theorem mem_nocut {D : PD} (h : D.cs = []) (x : Int) : mem D (x + D.p) = mem D x := by
 unfold mem
 rw [h, show plc [] (x + D.p) = plc [] x from rfl, Int.add_emod_right]
/-- a set is the same as itself -/
theorem same_t {w : World} {b : Nat} {D : PD} (h : PS w b D) (hf : D.cs.length ≤ 536869999) : Calls Tryz.prog 10 #[.pointer (some ⟨b, 0, none⟩), .pointer (some ⟨b, 0, none⟩)] w fun e w' => e = .returned (.bool true) ∧ Below w.heap.size w w' :=
 (same_n h h hf hf).mono fun _ _ ⟨_, h1, h2, h3⟩ => ⟨by rw [h1, h3.2 fun _ => rfl], h2⟩
theorem period_b {w : World} {b : Nat} {D : PD} (h : PS w b D) : Calls Tryz.prog 12 #[.pointer (some ⟨b, 0, none⟩)] w fun e w' => e = .returned (.int .i64 D.p) ∧ Below w.heap.size w w' := (period_n h).mono fun _ _ ⟨h1, h2⟩ => ⟨h1, by rw [h2]; exact Below.refl _ _⟩
theorem known_cs {A B D : PD} (hD : Wf D) (a1 : A.p = 1) (a2 : A.cs = [3 + 1]) (a3 : ∀ x, mem A x = decide (3 < x)) (b1 : B.p = 4) (b2 : B.cs = []) (b3 : ∀ x, mem B x = decide (x % 4 = -3 % 4)) (d1 : D.p = Nat.lcm A.p B.p) (d3 : ∀ x, mem D x = (mem A x && mem B x)) (hj : ∀ c ∈ D.cs, c ∈ A.cs ∨ c ∈ B.cs) : D.p = 4 ∧ D.cs = [4] ∧ mem D 5 = true ∧ mem D 1 = false ∧ mem D 6 = false := by
 have hp : D.p = 4 := by rw [d1, a1, b1]; rfl
 have m5 : mem D 5 = true := by rw [d3, a3, b3]; rfl
 have m1 : mem D 1 = false := by rw [d3, a3, b3]; rfl
 have m6 : mem D 6 = false := by rw [d3, a3, b3]; rfl
 refine ⟨hp, ?_, m5, m1, m6⟩
 have hc : ∀ c ∈ D.cs, c = 4 := fun c h => by
  rcases hj c h with h | h
  ·rw [a2] at h
   simpa using h
  ·rw [b2] at h; cases h
 have hu := hD.up
 match hcs : D.cs with
 | [] =>
  have := mem_nocut hcs 1
  rw [hp] at this
  rw [show (1 : Int) + (4 : Nat) = 5 from rfl, m5, m1] at this
  cases this
 | [c] =>
  rw [hcs] at hc
  rw [hc c (by simp)]
 | c :: d :: r =>
  rw [hcs] at hc hu
  have e1 := hc c (by simp)
  have e2 := hc d (by simp)
  have := (List.pairwise_cons.1 hu).1 d (by simp)
  omega
set_option maxRecDepth 100000 in
set_option maxHeartbeats 6400000 in
theorem known_n (w : World) : Calls Tryz.prog 5 #[] w fun e w' => e = .returned (.bool true) ∧ Below w.heap.size w w' := by
 have h3 := fun u : World => hide (rof_n 3 (by decide) (by decide) u)
 have h4 := fun u : World => hide (rof_n 4 (by decide) (by decide) u)
 have h5 := fun u : World => hide (rof_n (-3) (by decide) (by decide) u)
 go_enter Tryz.func5, Tryz.ntmps5
 go_wp2_with fail
 refine (h3 _).out.mono ?_
 rintro e w1 ⟨s1, a1, l1, c1, rfl, z1, k1, hl1⟩
 have hab := hide (above_n z1.zm (by omega))
 clear h3
 go_wp2_with fail
 refine hab.out.mono ?_
 rintro e w2 ⟨bA, A, rfl, pA, k2, eA1, eA2, eA3⟩
 clear hab
 replace k2 := hide (grow_step k2 k1)
 replace pA := hide pA
 replace eA1 := hide eA1
 replace eA2 := hide eA2
 replace eA3 := hide eA3
 clear z1 k1
 go_wp2_with fail
 refine (h4 _).out.mono ?_
 rintro e w3 ⟨s3, a3, l3, c3, rfl, z3, k3, hl3⟩
 go_wp2_with fail
 refine (h5 _).out.mono ?_
 rintro e w4 ⟨s4, a4, l4, c4, rfl, z4, k4, hl4⟩
 have hcl := hide (class_n (z := ⟨s3, a3, l3, c3⟩) (y := ⟨s4, a4, l4, c4⟩) ⟨z3.zm.below k4, by show l3 ≤ _; omega⟩ ⟨z4.zm, by show l4 ≤ _; omega⟩)
 replace k4 := hide (grow_step k4 k3)
 clear z3 z4 k3 h5
 go_wp2_with fail
 refine hcl.out.mono ?_
 rintro e w5 ⟨k5, ⟨he, -⟩ | ⟨-, bB, B, rfl, pB, eB1, -, eB3, eB4⟩⟩
 ·exact absurd (by decide) he
 have hA5 := hide ((pA.out.below k4.out).below k5)
 have k6 := hide (grow_step k5 (grow_step k4.out k2.out))
 have hwB : B.cs = [] := by rw [eB4]
 have hme := hide (meet_n hA5.out pB (by rw [eA2.out]; decide) (by rw [hwB]; decide))
 replace eB1 := hide eB1
 replace eB3 := hide eB3
 replace hwB := hide hwB
 clear hcl k5 pB pA k2 k4 eB4
 go_wp2_with fail
 refine hme.out.mono ?_
 rintro e w7 ⟨k7, ⟨he, -⟩ | ⟨-, bD, D, rfl, pD, eD1, eD2, eD3, eD4⟩⟩
 ·exact absurd (by rw [eA1.out, eB1.out]; decide) he
 obtain ⟨d1, d2, d3, d4, d5⟩ := known_cs pD.wf eA1.out eA2.out eA3.out (by rw [eB1.out]; rfl) hwB.out eB3.out eD1 eD3 eD4.cut
 have hct := hide (cuts_n pD (by rw [d2]; decide))
 rw [d2] at hct
 replace k7 := hide (grow_step k7 k6.out)
 replace pD := hide pD
 replace d3 := hide d3
 replace d4 := hide d4
 replace d5 := hide d5
 replace d1 := hide d1
 replace d2 := hide d2
 clear hme k6 hA5 eD1 eD2 eD3 eD4 eA1 eA2 eA3 eB1 eB3 hwB
 go_wp2_with fail
 refine hct.out.mono ?_
 rintro e w8 ⟨ca, cc, rfl, hcl, k8, -⟩
 obtain ⟨cb, off, zc, rfl, hcb, e0, e1, hzc⟩ := hcl.get (i := 0) (by decide) (by decide)
 rw [Nat.zero_mul, Nat.add_zero] at e0 e1
 have p8 := hide (pD.out.below k8)
 replace k8 := hide (grow_step k8 k7.out)
 replace hzc : Hid (Zf w8 zc 4) := hide hzc
 clear hct hcl
 go_upto_region 9 with (fail)
 refine wp_region_held_drew (S := (fun w' => w'.cell? ⟨cb, off, none⟩ = some (.bool zc.s) ∧ w'.cell? ⟨cb, off + 1, none⟩ = some (.slice zc.a zc.l zc.c))) (by kernel_rfl) (⟨(Below.cell (p := ⟨cb, _, none⟩) (grow_drew (Below.refl _ _)) hcb).trans e0, (Below.cell (p := ⟨cb, _, none⟩) (grow_drew (Below.refl _ _)) hcb).trans e1⟩) (fun hHeld => ?_)
 show wpAnyH _ _ _ _ _ 38 _ _ _
 have kW := grow_drew (Below.refl w8.heap.size w8)
 generalize w8.drew = wQ at *
 refine wpAnyH_take (i := 0) (oi := ⟨some 39, _, _, _, _, _⟩) (v := ?_) rfl (by decide +kernel) (by decide +kernel) (by decide +kernel) (fun _ _ _ h => h) (Or.inl ⟨by rfl, ?_⟩) (by assumption) ?_
 rotate_left
 ·intro wq hSw; (try dsimp only at hSw); go_simp; (try with_reducible rfl)
 (try simp only [Act.put, List.setIfInBounds_toArray, List.set_cons_zero, List.set_cons_succ])
 refine wpAnyH_ready (rs := [1]) (by decide +kernel) (by simp) ?_
 refine AllReadyH.cons (i := 1) (o := ⟨some 40, _, _, _, _, _⟩) rfl (fun K hK => ?_) AllReadyH.nil
 go_simp
 go_at_call 12; refine Calls.mono (period_b (p8.out.below kW)) ?_; rintro e wP ⟨rfl, kP⟩; rw [d1.out]
 have kW := grow_step kP kW
 try go_wp2_with fail
 refine hK.out _ _ ?_ ?_
 ·first | with_reducible exact trivial | ((try dsimp only); exact ⟨(Below.cell (p := ⟨cb, _, none⟩) kW hcb).trans e0, (Below.cell (p := ⟨cb, _, none⟩) kW hcb).trans e1⟩)
 clear hK K hHeld; intro hHeld
 (try simp only [Act.put, List.setIfInBounds_toArray, List.set_cons_zero, List.set_cons_succ])
 refine wpAnyH_take (i := 2) (oi := ⟨some 41, _, _, _, _, _⟩) (v := ?_) rfl (by decide +kernel) (by decide +kernel) (by decide +kernel) (fun _ _ _ h => h) (Or.inl ⟨by rfl, ?_⟩) (by assumption) ?_
 rotate_left
 ·intro wq hSw; (try dsimp only at hSw); go_simp; (try with_reducible rfl)
 (try simp only [Act.put, List.setIfInBounds_toArray, List.set_cons_zero, List.set_cons_succ])
 refine wpAnyH_take (i := 3) (oi := ⟨some 42, _, _, _, _, _⟩) (v := ?_) rfl (by decide +kernel) (by decide +kernel) (by decide +kernel) (fun _ _ _ h => h) (Or.inl ⟨by rfl, ?_⟩) (by assumption) ?_
 rotate_left
 ·intro wq hSw; (try dsimp only at hSw); go_simp; (try with_reducible rfl)
 (try simp only [Act.put, List.setIfInBounds_toArray, List.set_cons_zero, List.set_cons_succ])
 refine wpAnyH_take (i := 4) (oi := ⟨some 43, _, _, _, _, _⟩) (v := ?_) rfl (by decide +kernel) (by decide +kernel) (by decide +kernel) (fun _ _ _ h => h) (Or.inl ⟨by rfl, ?_⟩) (by assumption) ?_
 rotate_left
 ·intro wq hSw; (try dsimp only at hSw); go_simp; (try with_reducible rfl)
 (try simp only [Act.put, List.setIfInBounds_toArray, List.set_cons_zero, List.set_cons_succ])
 refine wpAnyH_take (i := 5) (oi := ⟨some 44, _, _, _, _, _⟩) (v := ?_) rfl (by decide +kernel) (by decide +kernel) (by decide +kernel) (fun _ _ _ h => h) (Or.inl ⟨by rfl, ?_⟩) (by assumption) ?_
 rotate_left
 ·intro wq hSw; (try dsimp only at hSw); go_simp; (try with_reducible rfl)
 (try simp only [Act.put, List.setIfInBounds_toArray, List.set_cons_zero, List.set_cons_succ])
 refine wpAnyH_take (i := 6) (oi := ⟨some 45, _, _, _, _, _⟩) (v := ?_) rfl (by decide +kernel) (by decide +kernel) (by decide +kernel) (fun _ _ _ h => h) (Or.inl ⟨by rfl, ?_⟩) (by assumption) ?_
 rotate_left
 ·intro wq hSw; (try dsimp only at hSw); go_simp; (try with_reducible rfl)
 (try simp only [Act.put, List.setIfInBounds_toArray, List.set_cons_zero, List.set_cons_succ])
 refine wpAnyH_take (i := 7) (oi := ⟨some 46, _, _, _, _, _⟩) (v := ?_) rfl (by decide +kernel) (by decide +kernel) (by decide +kernel) (fun _ _ _ h => h) (Or.inl ⟨by rfl, ?_⟩) (by assumption) ?_
 rotate_left
 ·intro wq hSw; (try dsimp only at hSw); go_simp; (try with_reducible rfl)
 (try simp only [Act.put, List.setIfInBounds_toArray, List.set_cons_zero, List.set_cons_succ])
 refine wpAnyH_take (i := 8) (oi := ⟨some 47, _, _, _, _, _⟩) (v := ?_) rfl (by decide +kernel) (by decide +kernel) (by decide +kernel) (fun _ _ _ h => h) (Or.inl ⟨by rfl, ?_⟩) (by assumption) ?_
 rotate_left
 ·intro wq hSw; (try dsimp only at hSw); go_simp; (try with_reducible rfl)
 (try simp only [Act.put, List.setIfInBounds_toArray, List.set_cons_zero, List.set_cons_succ])
 refine wpAnyH_take (i := 9) (oi := ⟨some 48, _, _, _, _, _⟩) (v := ?_) rfl (by decide +kernel) (by decide +kernel) (by decide +kernel) (fun _ _ _ h => h) (Or.inl ⟨by rfl, ?_⟩) (by assumption) ?_
 rotate_left
 ·intro wq hSw; (try dsimp only at hSw); go_simp; (try with_reducible rfl)
 (try simp only [Act.put, List.setIfInBounds_toArray, List.set_cons_zero, List.set_cons_succ])
 refine wpAnyH_take (i := 10) (oi := ⟨some 49, _, _, _, _, _⟩) (v := ?_) rfl (by decide +kernel) (by decide +kernel) (by decide +kernel) (fun _ _ _ h => h) (Or.inl ⟨by rfl, ?_⟩) (by assumption) ?_
 rotate_left
 ·intro wq hSw; (try dsimp only at hSw); go_simp; (try with_reducible rfl)
 (try simp only [Act.put, List.setIfInBounds_toArray, List.set_cons_zero, List.set_cons_succ])
 refine wpAnyH_take (i := 11) (oi := ⟨some 50, _, _, _, _, _⟩) (v := ?_) rfl (by decide +kernel) (by decide +kernel) (by decide +kernel) (fun _ _ _ h => h) (Or.inl ⟨by rfl, ?_⟩) (by assumption) ?_
 rotate_left
 ·intro wq hSw; (try dsimp only at hSw); go_simp; (try with_reducible rfl)
 (try simp only [Act.put, List.setIfInBounds_toArray, List.set_cons_zero, List.set_cons_succ])
 refine wpAnyH_ready (rs := [12]) (by decide +kernel) (by simp) ?_
 refine AllReadyH.cons (i := 12) (o := ⟨some 51, _, _, _, _, _⟩) rfl (fun K hK => ?_) AllReadyH.nil
 go_simp
 go_at_call 17; refine Calls.mono (rof_n 4 (by decide) (by decide) _) ?_; rintro e wA ⟨sA, aA, lA, cA, rfl, zA, kA, hlA⟩
 have kW := grow_step kA kW
 try go_wp2_with fail
 refine hK.out _ _ ?_ ?_
 ·first | with_reducible exact trivial | ((try dsimp only); exact ⟨(Below.cell (p := ⟨cb, _, none⟩) kW hcb).trans e0, (Below.cell (p := ⟨cb, _, none⟩) kW hcb).trans e1⟩)
 clear hK K hHeld; intro hHeld
 (try simp only [Act.put, List.setIfInBounds_toArray, List.set_cons_zero, List.set_cons_succ])
 refine wpAnyH_ready (rs := [13]) (by decide +kernel) (by simp) ?_
 refine AllReadyH.cons (i := 13) (o := ⟨some 52, _, _, _, _, _⟩) rfl (fun K hK => ?_) AllReadyH.nil
 go_simp
 go_at_call 19; refine Calls.mono (ints_zn (z := zc) (y := ⟨sA, aA, lA, cA⟩) (hzc.out.zn.zn.below kW) zA) ?_; rintro e wI ⟨rfl, kI⟩
 have kW := grow_step kI kW
 try go_wp2_with fail
 refine hK.out _ _ ?_ ?_
 ·first | with_reducible exact trivial | ((try dsimp only); exact ⟨(Below.cell (p := ⟨cb, _, none⟩) kW hcb).trans e0, (Below.cell (p := ⟨cb, _, none⟩) kW hcb).trans e1⟩)
 clear hK K hHeld; intro hHeld
 (try simp only [Act.put, List.setIfInBounds_toArray, List.set_cons_zero, List.set_cons_succ])
 refine wpAnyH_take (i := 14) (oi := ⟨some 53, _, _, _, _, _⟩) (v := ?_) rfl (by decide +kernel) (by decide +kernel) (by decide +kernel) (fun _ _ _ h => h) (Or.inl ⟨by rfl, ?_⟩) (by assumption) ?_
 rotate_left
 ·intro wq hSw; (try dsimp only at hSw); go_simp; (try with_reducible rfl)
 (try simp only [Act.put, List.setIfInBounds_toArray, List.set_cons_zero, List.set_cons_succ])
 refine wpAnyH_take (i := 15) (oi := ⟨some 54, _, _, _, _, _⟩) (v := ?_) rfl (by decide +kernel) (by decide +kernel) (by decide +kernel) (fun _ _ _ h => h) (Or.inl ⟨by rfl, ?_⟩) (by assumption) ?_
 rotate_left
 ·intro wq hSw; (try dsimp only at hSw); go_simp; (try with_reducible rfl)
 (try simp only [Act.put, List.setIfInBounds_toArray, List.set_cons_zero, List.set_cons_succ])
 refine wpAnyH_take (i := 16) (oi := ⟨some 55, _, _, _, _, _⟩) (v := ?_) rfl (by decide +kernel) (by decide +kernel) (by decide +kernel) (fun _ _ _ h => h) (Or.inl ⟨by rfl, ?_⟩) (by assumption) ?_
 rotate_left
 ·intro wq hSw; (try dsimp only at hSw); go_simp; (try with_reducible rfl)
 (try simp only [Act.put, List.setIfInBounds_toArray, List.set_cons_zero, List.set_cons_succ])
 refine wpAnyH_ready (rs := [17]) (by decide +kernel) (by simp) ?_
 refine AllReadyH.cons (i := 17) (o := ⟨some 56, _, _, _, _, _⟩) rfl (fun K hK => ?_) AllReadyH.nil
 go_simp
 go_at_call 17; refine Calls.mono (rof_n 5 (by decide) (by decide) _) ?_; rintro e wB ⟨sB, aB, lB, cB, rfl, zB, kB, hlB⟩
 have kW := grow_step kB kW
 try go_wp2_with fail
 refine hK.out _ _ ?_ ?_
 ·first | with_reducible exact trivial | ((try dsimp only); exact ⟨(Below.cell (p := ⟨cb, _, none⟩) kW hcb).trans e0, (Below.cell (p := ⟨cb, _, none⟩) kW hcb).trans e1⟩)
 clear hK K hHeld; intro hHeld
 (try simp only [Act.put, List.setIfInBounds_toArray, List.set_cons_zero, List.set_cons_succ])
 refine wpAnyH_ready (rs := [18]) (by decide +kernel) (by simp) ?_
 refine AllReadyH.cons (i := 18) (o := ⟨some 57, _, _, _, _, _⟩) rfl (fun K hK => ?_) AllReadyH.nil
 go_simp
 go_at_call 9; refine Calls.mono (sHas_n (y := ⟨sB, aB, lB, cB⟩) (p8.out.below kW) (by rw [d2.out]; decide) zB.zm (by show lB ≤ _; omega)) ?_; rintro e wHB ⟨rfl, kHB⟩; rw [d3.out]
 have kW := grow_step kHB kW
 try go_wp2_with fail
 refine hK.out _ _ ?_ ?_
 ·first | with_reducible exact trivial | ((try dsimp only); exact ⟨(Below.cell (p := ⟨cb, _, none⟩) kW hcb).trans e0, (Below.cell (p := ⟨cb, _, none⟩) kW hcb).trans e1⟩)
 clear hK K hHeld; intro hHeld
 (try simp only [Act.put, List.setIfInBounds_toArray, List.set_cons_zero, List.set_cons_succ])
 refine wpAnyH_take (i := 19) (oi := ⟨some 58, _, _, _, _, _⟩) (v := ?_) rfl (by decide +kernel) (by decide +kernel) (by decide +kernel) (fun _ _ _ h => h) (Or.inl ⟨by rfl, ?_⟩) (by assumption) ?_
 rotate_left
 ·intro wq hSw; (try dsimp only at hSw); go_simp; (try with_reducible rfl)
 (try simp only [Act.put, List.setIfInBounds_toArray, List.set_cons_zero, List.set_cons_succ])
 refine wpAnyH_take (i := 20) (oi := ⟨some 59, _, _, _, _, _⟩) (v := ?_) rfl (by decide +kernel) (by decide +kernel) (by decide +kernel) (fun _ _ _ h => h) (Or.inl ⟨by rfl, ?_⟩) (by assumption) ?_
 rotate_left
 ·intro wq hSw; (try dsimp only at hSw); go_simp; (try with_reducible rfl)
 (try simp only [Act.put, List.setIfInBounds_toArray, List.set_cons_zero, List.set_cons_succ])
 refine wpAnyH_take (i := 21) (oi := ⟨some 60, _, _, _, _, _⟩) (v := ?_) rfl (by decide +kernel) (by decide +kernel) (by decide +kernel) (fun _ _ _ h => h) (Or.inl ⟨by rfl, ?_⟩) (by assumption) ?_
 rotate_left
 ·intro wq hSw; (try dsimp only at hSw); go_simp; (try with_reducible rfl)
 (try simp only [Act.put, List.setIfInBounds_toArray, List.set_cons_zero, List.set_cons_succ])
 refine wpAnyH_ready (rs := [22]) (by decide +kernel) (by simp) ?_
 refine AllReadyH.cons (i := 22) (o := ⟨some 61, _, _, _, _, _⟩) rfl (fun K hK => ?_) AllReadyH.nil
 go_simp
 go_at_call 17; refine Calls.mono (rof_n 1 (by decide) (by decide) _) ?_; rintro e wC ⟨sC, aC, lC, cC, rfl, zC, kC, hlC⟩
 have kW := grow_step kC kW
 try go_wp2_with fail
 refine hK.out _ _ ?_ ?_
 ·first | with_reducible exact trivial | ((try dsimp only); exact ⟨(Below.cell (p := ⟨cb, _, none⟩) kW hcb).trans e0, (Below.cell (p := ⟨cb, _, none⟩) kW hcb).trans e1⟩)
 clear hK K hHeld; intro hHeld
 (try simp only [Act.put, List.setIfInBounds_toArray, List.set_cons_zero, List.set_cons_succ])
 refine wpAnyH_ready (rs := [23]) (by decide +kernel) (by simp) ?_
 refine AllReadyH.cons (i := 23) (o := ⟨some 62, _, _, _, _, _⟩) rfl (fun K hK => ?_) AllReadyH.nil
 go_simp
 go_at_call 9; refine Calls.mono (sHas_n (y := ⟨sC, aC, lC, cC⟩) (p8.out.below kW) (by rw [d2.out]; decide) zC.zm (by show lC ≤ _; omega)) ?_; rintro e wHC ⟨rfl, kHC⟩; rw [d4.out]
 have kW := grow_step kHC kW
 try go_wp2_with fail
 refine hK.out _ _ ?_ ?_
 ·first | with_reducible exact trivial | ((try dsimp only); exact ⟨(Below.cell (p := ⟨cb, _, none⟩) kW hcb).trans e0, (Below.cell (p := ⟨cb, _, none⟩) kW hcb).trans e1⟩)
 clear hK K hHeld; intro hHeld
 (try simp only [Act.put, List.setIfInBounds_toArray, List.set_cons_zero, List.set_cons_succ])
 refine wpAnyH_take (i := 24) (oi := ⟨some 63, _, _, _, _, _⟩) (v := ?_) rfl (by decide +kernel) (by decide +kernel) (by decide +kernel) (fun _ _ _ h => h) (Or.inl ⟨by rfl, ?_⟩) (by assumption) ?_
 rotate_left
 ·intro wq hSw; (try dsimp only at hSw); go_simp; (try with_reducible rfl)
 (try simp only [Act.put, List.setIfInBounds_toArray, List.set_cons_zero, List.set_cons_succ])
 refine wpAnyH_take (i := 25) (oi := ⟨some 64, _, _, _, _, _⟩) (v := ?_) rfl (by decide +kernel) (by decide +kernel) (by decide +kernel) (fun _ _ _ h => h) (Or.inl ⟨by rfl, ?_⟩) (by assumption) ?_
 rotate_left
 ·intro wq hSw; (try dsimp only at hSw); go_simp; (try with_reducible rfl)
 (try simp only [Act.put, List.setIfInBounds_toArray, List.set_cons_zero, List.set_cons_succ])
 refine wpAnyH_take (i := 26) (oi := ⟨some 65, _, _, _, _, _⟩) (v := ?_) rfl (by decide +kernel) (by decide +kernel) (by decide +kernel) (fun _ _ _ h => h) (Or.inl ⟨by rfl, ?_⟩) (by assumption) ?_
 rotate_left
 ·intro wq hSw; (try dsimp only at hSw); go_simp; (try with_reducible rfl)
 (try simp only [Act.put, List.setIfInBounds_toArray, List.set_cons_zero, List.set_cons_succ])
 refine wpAnyH_take (i := 27) (oi := ⟨some 66, _, _, _, _, _⟩) (v := ?_) rfl (by decide +kernel) (by decide +kernel) (by decide +kernel) (fun _ _ _ h => h) (Or.inl ⟨by rfl, ?_⟩) (by assumption) ?_
 rotate_left
 ·intro wq hSw; (try dsimp only at hSw); go_simp; (try with_reducible rfl)
 (try simp only [Act.put, List.setIfInBounds_toArray, List.set_cons_zero, List.set_cons_succ])
 refine wpAnyH_ready (rs := [28]) (by decide +kernel) (by simp) ?_
 refine AllReadyH.cons (i := 28) (o := ⟨some 67, _, _, _, _, _⟩) rfl (fun K hK => ?_) AllReadyH.nil
 go_simp
 go_at_call 17; refine Calls.mono (rof_n 6 (by decide) (by decide) _) ?_; rintro e wD ⟨sD, aD, lD, cD, rfl, zD, kD, hlD⟩
 have kW := grow_step kD kW
 try go_wp2_with fail
 refine hK.out _ _ ?_ ?_
 ·first | with_reducible exact trivial | ((try dsimp only); exact ⟨(Below.cell (p := ⟨cb, _, none⟩) kW hcb).trans e0, (Below.cell (p := ⟨cb, _, none⟩) kW hcb).trans e1⟩)
 clear hK K hHeld; intro hHeld
 (try simp only [Act.put, List.setIfInBounds_toArray, List.set_cons_zero, List.set_cons_succ])
 refine wpAnyH_ready (rs := [29]) (by decide +kernel) (by simp) ?_
 refine AllReadyH.cons (i := 29) (o := ⟨some 68, _, _, _, _, _⟩) rfl (fun K hK => ?_) AllReadyH.nil
 go_simp
 go_at_call 9; refine Calls.mono (sHas_n (y := ⟨sD, aD, lD, cD⟩) (p8.out.below kW) (by rw [d2.out]; decide) zD.zm (by show lD ≤ _; omega)) ?_; rintro e wHD ⟨rfl, kHD⟩; rw [d5.out]
 have kW := grow_step kHD kW
 try go_wp2_with fail
 refine hK.out _ _ ?_ ?_
 ·first | with_reducible exact trivial | ((try dsimp only); exact ⟨(Below.cell (p := ⟨cb, _, none⟩) kW hcb).trans e0, (Below.cell (p := ⟨cb, _, none⟩) kW hcb).trans e1⟩)
 clear hK K hHeld; intro hHeld
 (try simp only [Act.put, List.setIfInBounds_toArray, List.set_cons_zero, List.set_cons_succ])
 refine wpAnyH_take (i := 30) (oi := ⟨some 69, _, _, _, _, _⟩) (v := ?_) rfl (by decide +kernel) (by decide +kernel) (by decide +kernel) (fun _ _ _ h => h) (Or.inl ⟨by rfl, ?_⟩) (by assumption) ?_
 rotate_left
 ·intro wq hSw; (try dsimp only at hSw); go_simp; (try with_reducible rfl)
 (try simp only [Act.put, List.setIfInBounds_toArray, List.set_cons_zero, List.set_cons_succ])
 refine wpAnyH_take (i := 31) (oi := ⟨some 70, _, _, _, _, _⟩) (v := ?_) rfl (by decide +kernel) (by decide +kernel) (by decide +kernel) (fun _ _ _ h => h) (Or.inl ⟨by rfl, ?_⟩) (by assumption) ?_
 rotate_left
 ·intro wq hSw; (try dsimp only at hSw); go_simp; (try with_reducible rfl)
 (try simp only [Act.put, List.setIfInBounds_toArray, List.set_cons_zero, List.set_cons_succ])
 refine wpAnyH_take (i := 32) (oi := ⟨some 71, _, _, _, _, _⟩) (v := ?_) rfl (by decide +kernel) (by decide +kernel) (by decide +kernel) (fun _ _ _ h => h) (Or.inl ⟨by rfl, ?_⟩) (by assumption) ?_
 rotate_left
 ·intro wq hSw; (try dsimp only at hSw); go_simp; (try with_reducible rfl)
 (try simp only [Act.put, List.setIfInBounds_toArray, List.set_cons_zero, List.set_cons_succ])
 refine wpAnyH_take (i := 33) (oi := ⟨some 72, _, _, _, _, _⟩) (v := ?_) rfl (by decide +kernel) (by decide +kernel) (by decide +kernel) (fun _ _ _ h => h) (Or.inl ⟨by rfl, ?_⟩) (by assumption) ?_
 rotate_left
 ·intro wq hSw; (try dsimp only at hSw); go_simp; (try with_reducible rfl)
 (try simp only [Act.put, List.setIfInBounds_toArray, List.set_cons_zero, List.set_cons_succ])
 refine wpAnyH_take (i := 34) (oi := ⟨some 73, _, _, _, _, _⟩) (v := ?_) rfl (by decide +kernel) (by decide +kernel) (by decide +kernel) (fun _ _ _ h => h) (Or.inl ⟨by rfl, ?_⟩) (by assumption) ?_
 rotate_left
 ·intro wq hSw; (try dsimp only at hSw); go_simp; (try with_reducible rfl)
 (try simp only [Act.put, List.setIfInBounds_toArray, List.set_cons_zero, List.set_cons_succ])
 refine wpAnyH_ready (rs := [35]) (by decide +kernel) (by simp) ?_
 refine AllReadyH.cons (i := 35) (o := ⟨some 74, _, _, _, _, _⟩) rfl (fun K hK => ?_) AllReadyH.nil
 go_simp
 go_at_call 10; refine Calls.mono (same_t (p8.out.below kW) (by rw [d2.out]; decide)) ?_; rintro e wS ⟨rfl, kS⟩
 have kW := grow_step kS kW
 try go_wp2_with fail
 refine hK.out _ _ ?_ ?_
 ·first | with_reducible exact trivial | ((try dsimp only); exact ⟨(Below.cell (p := ⟨cb, _, none⟩) kW hcb).trans e0, (Below.cell (p := ⟨cb, _, none⟩) kW hcb).trans e1⟩)
 clear hK K hHeld; intro hHeld
 (try simp only [Act.put, List.setIfInBounds_toArray, List.set_cons_zero, List.set_cons_succ])
 refine wpAnyH_take (i := 36) (oi := ⟨some 75, _, _, _, _, _⟩) (v := ?_) rfl (by decide +kernel) (by decide +kernel) (by decide +kernel) (fun _ _ _ h => h) (Or.inl ⟨by rfl, ?_⟩) (by assumption) ?_
 rotate_left
 ·intro wq hSw; (try dsimp only at hSw); go_simp; (try with_reducible rfl)
 (try simp only [Act.put, List.setIfInBounds_toArray, List.set_cons_zero, List.set_cons_succ])
 refine wpAnyH_ready (rs := [37]) (by decide +kernel) (by simp) ?_
 refine AllReadyH.cons (i := 37) (o := ⟨some 0, _, _, _, _, _⟩) rfl (fun K hK => ?_) AllReadyH.nil
 go_simp
 refine hK.out _ _ ?_ ?_
 ·first | with_reducible exact trivial | ((try dsimp only); exact ⟨(Below.cell (p := ⟨cb, _, none⟩) kW hcb).trans e0, (Below.cell (p := ⟨cb, _, none⟩) kW hcb).trans e1⟩)
 clear hK K hHeld; intro hHeld
 (try simp only [Act.put, List.setIfInBounds_toArray, List.set_cons_zero, List.set_cons_succ])
 refine wpAnyH_done ?_ ?_ _
 ·decide +kernel
 have kZ := hide (grow_step kW k8.out)
 clear kW hHeld
 go_wp2
 exact bodyPost_ret (results_tmp rfl _ _ _) rfl ⟨rfl, kZ.out⟩
end Pd
end Go.Proofs.YtdepidmmanjlhaaGreat

namespace Go.Proofs.YtdepidmmanjlhaaGreat
open Go.RowKit
namespace Pd

set_option maxRecDepth 100000 in
set_option maxHeartbeats 1600000 in
theorem has_nil {w : World} (s : Bool) (a : Option Addr) (l c : Nat) : Calls Tryz.prog 9 #[.pointer none, .agg #[.bool s, .slice a l c]] w fun e w' => e = .returned (.bool false) ∧ Below w.heap.size w w' := by
 have b0 := hide (below_alloc w (.cells #[.bool s, .slice a l c] 24))
 go_enter Tryz.func9, Tryz.ntmps9
 go_wp2
 exact bodyPost_ret (results_tmp rfl _ _ _) rfl ⟨rfl, b0.out⟩
set_option maxRecDepth 100000 in
set_option maxHeartbeats 1600000 in
theorem cuts_nil {w : World} : Calls Tryz.prog 11 #[.pointer none] w fun e w' => e = .returned (.slice none 0 0) ∧ Below w.heap.size w w' := by
 go_enter Tryz.func11, Tryz.ntmps11
 go_wp2
 exact bodyPost_ret (results_tmp rfl _ _ _) rfl ⟨rfl, Below.refl _ _⟩
set_option maxRecDepth 100000 in
set_option maxHeartbeats 1600000 in
theorem period_nil {w : World} : Calls Tryz.prog 12 #[.pointer none] w fun e w' => e = .returned (.int .i64 0) ∧ Below w.heap.size w w' := by
 go_enter Tryz.func12, Tryz.ntmps12
 go_wp2
 exact bodyPost_ret (results_tmp rfl _ _ _) rfl ⟨rfl, Below.refl _ _⟩
set_option maxRecDepth 100000 in
set_option maxHeartbeats 1600000 in
theorem same_nil1 {w : World} {bA : Nat} : Calls Tryz.prog 10 #[.pointer (some ⟨bA, 0, none⟩), .pointer none] w fun e w' => e = .returned (.bool false) ∧ Below w.heap.size w w' :=
 same_nil.mono fun _ _ ⟨h1, h2⟩ => ⟨h1, by rw [h2]; exact Below.refl _ _⟩
set_option maxRecDepth 100000 in
set_option maxHeartbeats 1600000 in
theorem same_nil2 {w : World} (o : Value) : Calls Tryz.prog 10 #[.pointer none, o] w fun e w' => e = .returned (.bool false) ∧ Below w.heap.size w w' := by
 go_enter Tryz.func10, Tryz.ntmps10
 go_wp2
 exact bodyPost_ret (results_tmp rfl _ _ _) rfl ⟨rfl, Below.refl _ _⟩
set_option maxRecDepth 100000 in
set_option maxHeartbeats 1600000 in
theorem joined_nil1 {w : World} (o f : Value) : Calls Tryz.prog 20 #[.pointer none, o, f] w fun e w' => e = .returned (.tuple #[.pointer none, .int .i64 1]) ∧ Below w.heap.size w w' := by
 go_enter Tryz.func20, Tryz.ntmps20
 go_wp2
 exact bodyPost_ret (results_tmp2 rfl _ _ _) rfl ⟨rfl, Below.refl _ _⟩
set_option maxRecDepth 100000 in
set_option maxHeartbeats 1600000 in
theorem meet_nil1 {w : World} (o : Value) : Calls Tryz.prog 6 #[.pointer none, o] w fun e w' => e = .returned (.tuple #[.pointer none, .int .i64 1]) ∧ Below w.heap.size w w' := by
 have hj := hide (joined_nil1 (w := w) o (.func (.func 21) #[] #[]))
 go_enter Tryz.func6, Tryz.ntmps6
 go_wp2_with fail
 refine hj.out.mono ?_
 rintro e w1 ⟨rfl, k1⟩
 replace k1 := hide k1
 clear hj
 go_wp2
 exact bodyPost_ret (results_tmp2 rfl _ _ _) rfl ⟨rfl, k1.out⟩
set_option maxRecDepth 100000 in
set_option maxHeartbeats 1600000 in
theorem join_nil1 {w : World} (o : Value) : Calls Tryz.prog 7 #[.pointer none, o] w fun e w' => e = .returned (.tuple #[.pointer none, .int .i64 1]) ∧ Below w.heap.size w w' := by
 have hj := hide (joined_nil1 (w := w) o (.func (.func 22) #[] #[]))
 go_enter Tryz.func7, Tryz.ntmps7
 go_wp2_with fail
 refine hj.out.mono ?_
 rintro e w1 ⟨rfl, k1⟩
 replace k1 := hide k1
 clear hj
 go_wp2
 exact bodyPost_ret (results_tmp2 rfl _ _ _) rfl ⟨rfl, k1.out⟩
end Pd
end Go.Proofs.YtdepidmmanjlhaaGreat

namespace Go.Proofs.YtdepidmmanjlhaaGreat
open Go.RowKit
namespace Pd

set_option maxRecDepth 100000 in
set_option maxHeartbeats 1600000 in
theorem refused_nil {w : World} (i v : Int) : Calls Tryz.prog 23 #[.pointer none, .int .i64 i, .int .i64 v] w fun e w' => e = .returned (.int .i64 1) ∧ Below w.heap.size w w' := by
 have b0 := below_alloc w (.cells #[.int .i64 v] 3)
 go_enter Tryz.func23, Tryz.ntmps23
 go_wp2
 first
  | exact bodyPost_ret (results_tmp rfl _ _ _) rfl ⟨rfl, Below.refl _ _⟩
  | exact bodyPost_ret (results_tmp rfl _ _ _) rfl ⟨rfl, b0⟩
set_option maxRecDepth 100000 in
set_option maxHeartbeats 1600000 in
theorem of_nil {w : World} (i v : Int) : Calls Tryz.prog 8 #[.pointer none, .int .i64 i, .int .i64 v] w fun e w' => e = .returned (.tuple #[.pointer none, .int .i64 1]) ∧ Below w.heap.size w w' := by
 have hj := hide (refused_nil (w := w) i v)
 go_enter Tryz.func8, Tryz.ntmps8
 go_wp2_with fail
 refine hj.out.mono ?_
 rintro e w1 ⟨rfl, k1⟩
 replace k1 := hide k1
 clear hj
 go_wp2
 exact bodyPost_ret (results_tmp2 rfl _ _ _) rfl ⟨rfl, k1.out⟩
set_option maxRecDepth 100000 in
set_option maxHeartbeats 3200000 in
theorem periodsNothing_walk {w : World} {s : Bool} {a : Option Addr} {l c : Nat} {x : Int} (hz : Zm w s a l c x) (hl : l ≤ 1048576) :
  Calls Tryz.prog 3 #[.agg #[.bool s, .slice a l c]] w fun e w' => e = .returned (.bool true) ∧ Below w.heap.size w w' := by
 have b0 := below_alloc w (.cells #[.bool s, .slice a l c] 24)
 have y0 := zb_new w s a l c
 have hab := hide (above_n (hz.below b0) (by omega))
 have q0 := y0.c0
 have q1 := y0.c1
 have hbt := y0.lt
 replace b0 := hide b0
 clear hz y0
 go_enter Tryz.func3, Tryz.ntmps3
 go_upto_region 2 with (fail)
 generalize w.alloc (.cells #[.bool s, .slice a l c] 24) = w0 at *
 obtain ⟨bt, hbw⟩ : ∃ bt, w.heap.size = bt := ⟨_, rfl⟩
 rw [hbw] at q0 q1 hbt ⊢
 replace hbw := hide hbw
 go_wp2_with fail
 refine hab.out.mono ?_
 rintro e w1 ⟨bA, A, rfl, hA, k1, -, -, -⟩
 have kw := hide k1
 have hkn := hide (known_n w1)
 clear hab k1 hA
 go_wp2_with fail
 refine hkn.out.mono ?_
 rintro e w2 ⟨rfl, k2⟩
 replace kw := hide (grow_step k2 kw.out)
 clear hkn k2
 go_wp2_with fail
 refine (meet_nil1 _).mono ?_
 rintro e w3 ⟨rfl, k3⟩
 replace kw := hide (grow_step k3 kw.out)
 clear k3
 go_wp2_with fail
 refine (join_nil1 _).mono ?_
 rintro e w4 ⟨rfl, k4⟩
 replace kw := hide (grow_step k4 kw.out)
 clear k4
 go_wp2_with fail
 refine (of_nil _ _).mono ?_
 rintro e w5 ⟨rfl, k5⟩
 replace kw := hide (grow_step k5 kw.out)
 have e0 := (kw.out.cell (p := ⟨bt, 0, none⟩) hbt).trans q0
 have e1 := (kw.out.cell (p := ⟨bt, 1, none⟩) hbt).trans q1
 clear k5 q0 q1
 go_wp2_with fail
 refine (has_nil _ _ _ _).mono ?_
 rintro e w6 ⟨rfl, k6⟩
 replace kw := hide (grow_step k6 kw.out)
 clear k6 e0 e1
 go_wp2_with fail
 refine (same_nil2 _).mono ?_
 rintro e w7 ⟨rfl, k7⟩
 replace kw := hide (grow_step k7 kw.out)
 clear k7
 go_wp2_with fail
 refine same_nil1.mono ?_
 rintro e w8 ⟨rfl, k8⟩
 replace kw := hide (grow_step k8 kw.out)
 clear k8
 go_wp2_with fail
 refine cuts_nil.mono ?_
 rintro e w9 ⟨rfl, k9⟩
 replace kw := hide (grow_step k9 kw.out)
 clear k9
 go_wp2_with fail
 refine period_nil.mono ?_
 rintro e wA ⟨rfl, kA⟩
 have kf : Hid (Below w.heap.size w wA) := hide (by
  have h1 := b0.out
  rw [hbw.out] at h1 ⊢
  exact h1.trans ((grow_step kA kw.out).mono (Nat.le_of_lt hbt)))
 clear kA
 go_wp2
 exact bodyPost_ret (results_tmp rfl _ _ _) rfl ⟨rfl, kf.out⟩
end Pd
end Go.Proofs.YtdepidmmanjlhaaGreat
