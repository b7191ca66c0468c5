/-
 Several texts in one: PdL, PdM, PdN, PdO, PdM1, PdP, PdQ, PdR, PdS, PdT, PdU.
-/
import Derived.Test.YtojciccmjpabmaaPjs13
import Derived.Test.YtojciccmjpabmaaPjs08
namespace Go.Proofs.Ytojciccmjpabmaa
open Go.RowKit
namespace Pd

theorem step_mod {p : Nat} (_hp : 1 ≤ p) (a : Int) (k m : Nat) (h : (a + k) % (p : Int) = m) : ((m : Int) + 1) % (p : Int) = (a + ((k + 1 : Nat) : Int)) % (p : Int) := by
 rw [← h, show a + ((k + 1 : Nat) : Int) = a + k + 1 by omega]
 exact Int.emod_add_emod _ _ _
theorem per_nat {p : Nat} (hp : 1 ≤ p) (a : Int) : ∃ m : Nat, a % (p : Int) = m := ⟨(a % (p : Int)).toNat, by have := Int.emod_nonneg a (show (p : Int) ≠ 0 by omega); omega⟩
set_option maxRecDepth 100000 in
set_option maxHeartbeats 6400000 in
theorem agreeAt_n {w : World} {bA bB : Nat} {A B : PD} {z : ZV} {i j c : Nat} {a : Int} (hA : PS w bA A) (hB : PS w bB B) (hz : Zm w z.s z.a z.l z.c a) (hzl : z.l ≤ 1099511627776) (hi : i < A.rs.length) (hj : j < B.rs.length) (hc : c ≤ 8192) :
  Calls Try.prog 83 #[.pointer (some ⟨bA, 0, none⟩), .pointer (some ⟨bB, 0, none⟩), .agg #[.bool z.s, .slice z.a z.l z.c, .int .i64 i, .int .i64 j], .int .i64 c] w fun e w' => ∃ b, e = .returned (.bool b) ∧ Below w.heap.size w w' ∧ (b = true ↔ ∀ k : Nat, k < c → rmem A.p (rw' A i) (a + k) = rmem B.p (rw' B j) (a + k)) := by
 have b0 := below_alloc w (.cells #[.bool z.s, .slice z.a z.l z.c, .int .i64 i, .int .i64 j] 102)
 have y0 : EB (w.alloc (.cells #[.bool z.s, .slice z.a z.l z.c, .int .i64 i, .int .i64 j] 102)) w.heap.size ⟨z, i, j⟩ := heap_alloc_new w _
 have hwA := hide hA.wf
 have hwB := hide hB.wf
 have hp1 := hwA.out.p1
 have hp2 := hwA.out.p2
 have hq1 := hwB.out.p1
 have hq2 := hwB.out.p2
 obtain ⟨vA, sA, -, rlA⟩ := (hA.below b0).blk
 obtain ⟨vB, sB, -, rlB⟩ := (hB.below b0).blk
 have hin : i < vA.rn := by rw [← rlA.len]; exact hi
 have hjn : j < vB.rn := by rw [← rlB.len]; exact hj
 obtain ⟨r1, o1, g1, ha1, hr1, d1, hg1⟩ := rlA.get hin
 obtain ⟨r2, o2, g2, ha2, hr2, d2, hg2⟩ := rlB.get hjn
 have hl1 := hide (hwA.out.rok hi)
 have hl2 := hide (hwB.out.rok hj)
 replace hg1 : Hid (RB _ g1 (rw' A i)) := hide hg1
 replace hg2 : Hid (RB _ g2 (rw' B j)) := hide hg2
 have hz0 := hide (hz.below b0)
 have k0 := hide b0
 clear hA hB hz rlA rlB hi hj b0
 generalize rw' A i = xa at *
 generalize rw' B j = xb at *
 go_enter Try.func83, Try.ntmps83
 go_upto_region 1 with (fail)
 generalize w.alloc (.cells #[.bool z.s, .slice z.a z.l z.c, .int .i64 i, .int .i64 j] 102) = w0 at *
 have hbt := y0.lt
 generalize hbe : w.heap.size = bt at *
 replace hbe := hide hbe
 have e2 := sA.c2
 have e3 := sB.c2
 rw [ha1] at e2
 rw [ha2] at e3
 have hsl := sA.lt
 have hsl2 := sB.lt
 replace sA := hide sA
 replace sB := hide sB
 replace y0 := hide y0
 refine wp_region_held_drew (S := (fun w' => w'.cell? ⟨bA, 2, none⟩ = some (.slice (some ⟨r1, o1, none⟩) vA.rn vA.rc) ∧ w'.cell? ⟨bB, 2, none⟩ = some (.slice (some ⟨r2, o2, none⟩) vB.rn vB.rc) ∧ w'.cell? ⟨bt, 2, none⟩ = some (.int .i64 i) ∧ w'.cell? ⟨bt, 3, none⟩ = some (.int .i64 j) ∧ w'.cell? ⟨r1, o1 + i, none⟩ = some (.slice (some ⟨g1, 0, none⟩) (wn A.p) (wn A.p)) ∧ w'.cell? ⟨r2, o2 + j, none⟩ = some (.slice (some ⟨g2, 0, none⟩) (wn B.p) (wn B.p)))) (by kernel_rfl) (⟨(Below.cell (grow_drew (Below.refl _ _)) hsl).trans e2, (Below.cell (grow_drew (Below.refl _ _)) hsl2).trans e3, (y0.out.below (grow_drew (Below.refl _ _))).c2, (y0.out.below (grow_drew (Below.refl _ _))).c3, (Below.cell (grow_drew (Below.refl _ _)) hr1).trans d1, (Below.cell (grow_drew (Below.refl _ _)) hr2).trans d2⟩) (fun hHeld => ?_)
 show wpAnyH _ _ _ _ _ 18 _ _ _
 have kW := grow_drew (Below.refl w0.heap.size w0)
 generalize w0.drew = wQ at *
 repeat' first
  | with_reducible exact AllReadyH.nil
  | (
   refine wpAnyH_take (i := 0) (oi := ⟨some 13, _, _, _, _, _⟩) (v := ?_) rfl (by decide +kernel) (by decide +kernel) (by decide +kernel) (fun _ _ _ h => h) (Or.inl ⟨by rfl, ?_⟩) (by assumption) ?_
   rotate_left
   ·intro wq hSw; (try dsimp only at hSw); go_simp; (try with_reducible rfl)
   (try simp only [Act.put, List.setIfInBounds_toArray, List.set_cons_zero, List.set_cons_succ]))
  | (
   refine wpAnyH_take (i := 1) (oi := ⟨some 14, _, _, _, _, _⟩) (v := ?_) rfl (by decide +kernel) (by decide +kernel) (by decide +kernel) (fun _ _ _ h => h) (Or.inl ⟨by rfl, ?_⟩) (by assumption) ?_
   rotate_left
   ·intro wq hSw; (try dsimp only at hSw); go_simp; (try with_reducible rfl)
   (try simp only [Act.put, List.setIfInBounds_toArray, List.set_cons_zero, List.set_cons_succ]))
  | (
   refine wpAnyH_take (i := 2) (oi := ⟨some 15, _, _, _, _, _⟩) (v := ?_) rfl (by decide +kernel) (by decide +kernel) (by decide +kernel) (fun _ _ _ h => h) (Or.inl ⟨by rfl, ?_⟩) (by assumption) ?_
   rotate_left
   ·intro wq hSw; (try dsimp only at hSw); go_simp; (try with_reducible rfl)
   (try simp only [Act.put, List.setIfInBounds_toArray, List.set_cons_zero, List.set_cons_succ]))
  | (
   refine wpAnyH_take (i := 3) (oi := ⟨some 16, _, _, _, _, _⟩) (v := ?_) rfl (by decide +kernel) (by decide +kernel) (by decide +kernel) (fun _ _ _ h => h) (Or.inl ⟨by rfl, ?_⟩) (by assumption) ?_
   rotate_left
   ·intro wq hSw; (try dsimp only at hSw); go_simp; (try with_reducible rfl)
   (try simp only [Act.put, List.setIfInBounds_toArray, List.set_cons_zero, List.set_cons_succ]))
  | (
   refine wpAnyH_take (i := 4) (oi := ⟨some 17, _, _, _, _, _⟩) (v := ?_) rfl (by decide +kernel) (by decide +kernel) (by decide +kernel) (fun _ _ _ h => h) (Or.inl ⟨by rfl, ?_⟩) (by assumption) ?_
   rotate_left
   ·intro wq hSw; (try dsimp only at hSw); go_simp; (try with_reducible rfl)
   (try simp only [Act.put, List.setIfInBounds_toArray, List.set_cons_zero, List.set_cons_succ]))
  | (
   refine wpAnyH_take (i := 5) (oi := ⟨some 18, _, _, _, _, _⟩) (v := ?_) rfl (by decide +kernel) (by decide +kernel) (by decide +kernel) (fun _ _ _ h => h) (Or.inl ⟨by rfl, ?_⟩) (by assumption) ?_
   rotate_left
   ·intro wq hSw; (try dsimp only at hSw); go_simp; (try with_reducible rfl)
   (try simp only [Act.put, List.setIfInBounds_toArray, List.set_cons_zero, List.set_cons_succ]))
  | (
   refine wpAnyH_take (i := 6) (oi := ⟨some 19, _, _, _, _, _⟩) (v := ?_) rfl (by decide +kernel) (by decide +kernel) (by decide +kernel) (fun _ _ _ h => h) (Or.inl ⟨by rfl, ?_⟩) (by assumption) ?_
   rotate_left
   ·intro wq hSw; (try dsimp only at hSw); go_simp; (try with_reducible rfl)
   (try simp only [Act.put, List.setIfInBounds_toArray, List.set_cons_zero, List.set_cons_succ]))
  | (
   refine wpAnyH_take (i := 7) (oi := ⟨some 20, _, _, _, _, _⟩) (v := ?_) rfl (by decide +kernel) (by decide +kernel) (by decide +kernel) (fun _ _ _ h => h) (Or.inl ⟨by rfl, ?_⟩) (by assumption) ?_
   rotate_left
   ·intro wq hSw; (try dsimp only at hSw); go_simp; (try with_reducible rfl)
   (try simp only [Act.put, List.setIfInBounds_toArray, List.set_cons_zero, List.set_cons_succ]))
  | (
   refine wpAnyH_take (i := 8) (oi := ⟨some 21, _, _, _, _, _⟩) (v := ?_) rfl (by decide +kernel) (by decide +kernel) (by decide +kernel) (fun _ _ _ h => h) (Or.inl ⟨by rfl, ?_⟩) (by assumption) ?_
   rotate_left
   ·intro wq hSw; (try dsimp only at hSw); go_simp; (try with_reducible rfl)
   (try simp only [Act.put, List.setIfInBounds_toArray, List.set_cons_zero, List.set_cons_succ]))
  | (
   refine wpAnyH_take (i := 9) (oi := ⟨some 22, _, _, _, _, _⟩) (v := ?_) rfl (by decide +kernel) (by decide +kernel) (by decide +kernel) (fun _ _ _ h => h) (Or.inl ⟨by rfl, ?_⟩) (by assumption) ?_
   rotate_left
   ·intro wq hSw; (try dsimp only at hSw); go_simp; (try with_reducible rfl)
   (try simp only [Act.put, List.setIfInBounds_toArray, List.set_cons_zero, List.set_cons_succ]))
  | (
   refine wpAnyH_take (i := 10) (oi := ⟨some 23, _, _, _, _, _⟩) (v := ?_) rfl (by decide +kernel) (by decide +kernel) (by decide +kernel) (fun _ _ _ h => h) (Or.inl ⟨by rfl, ?_⟩) (by assumption) ?_
   rotate_left
   ·intro wq hSw; (try dsimp only at hSw); go_simp; (try with_reducible rfl)
   (try simp only [Act.put, List.setIfInBounds_toArray, List.set_cons_zero, List.set_cons_succ]))
  | (
   refine wpAnyH_take (i := 11) (oi := ⟨some 24, _, _, _, _, _⟩) (v := ?_) rfl (by decide +kernel) (by decide +kernel) (by decide +kernel) (fun _ _ _ h => h) (Or.inl ⟨by rfl, ?_⟩) (by assumption) ?_
   rotate_left
   ·intro wq hSw; (try dsimp only at hSw); go_simp; (try with_reducible rfl)
   (try simp only [Act.put, List.setIfInBounds_toArray, List.set_cons_zero, List.set_cons_succ]))
  | (
   refine wpAnyH_take (i := 12) (oi := ⟨some 25, _, _, _, _, _⟩) (v := ?_) rfl (by decide +kernel) (by decide +kernel) (by decide +kernel) (fun _ _ _ h => h) (Or.inl ⟨by rfl, ?_⟩) (by assumption) ?_
   rotate_left
   ·intro wq hSw; (try dsimp only at hSw); go_simp; (try with_reducible rfl)
   (try simp only [Act.put, List.setIfInBounds_toArray, List.set_cons_zero, List.set_cons_succ]))
  | (
   refine wpAnyH_take (i := 13) (oi := ⟨some 26, _, _, _, _, _⟩) (v := ?_) rfl (by decide +kernel) (by decide +kernel) (by decide +kernel) (fun _ _ _ h => h) (Or.inl ⟨by rfl, ?_⟩) (by assumption) ?_
   rotate_left
   ·intro wq hSw; (try dsimp only at hSw); go_simp; (try with_reducible rfl)
   (try simp only [Act.put, List.setIfInBounds_toArray, List.set_cons_zero, List.set_cons_succ]))
  | (
   refine wpAnyH_take (i := 14) (oi := ⟨some 27, _, _, _, _, _⟩) (v := ?_) rfl (by decide +kernel) (by decide +kernel) (by decide +kernel) (fun _ _ _ h => h) (Or.inl ⟨by rfl, ?_⟩) (by assumption) ?_
   rotate_left
   ·intro wq hSw; (try dsimp only at hSw); go_simp; (try with_reducible rfl)
   (try simp only [Act.put, List.setIfInBounds_toArray, List.set_cons_zero, List.set_cons_succ]))
  | (
   refine wpAnyH_take (i := 15) (oi := ⟨some 28, _, _, _, _, _⟩) (v := ?_) rfl (by decide +kernel) (by decide +kernel) (by decide +kernel) (fun _ _ _ h => h) (Or.inl ⟨by rfl, ?_⟩) (by assumption) ?_
   rotate_left
   ·intro wq hSw; (try dsimp only at hSw); go_simp; (try with_reducible rfl)
   (try simp only [Act.put, List.setIfInBounds_toArray, List.set_cons_zero, List.set_cons_succ]))
  | (refine wpAnyH_ready (rs := [16]) ?_ ?_ ?_; decide +kernel; simp)
  | (refine wpAnyH_ready (rs := [17]) ?_ ?_ ?_; decide +kernel; simp)
  | (
   first
    | (
     refine AllReadyH.cons (i := 16) (o := ⟨some 9, _, _, _, _, _⟩) rfl (fun K hK => ?_) ?_
     go_simp)
    | (
     refine AllReadyH.cons (i := 17) (o := ⟨some 10, _, _, _, _, _⟩) rfl (fun K hK => ?_) ?_
     go_simp)
   refine hK.out _ _ ?_ ?_
   ·first | with_reducible exact trivial | ((try dsimp only); exact ⟨(Below.cell kW hsl).trans e2, (Below.cell kW hsl2).trans e3, (y0.out.below kW).c2, (y0.out.below kW).c3, (Below.cell kW hr1).trans d1, (Below.cell kW hr2).trans d2⟩)
   clear hK K hHeld; intro hHeld
   (try simp only [Act.put, List.setIfInBounds_toArray, List.set_cons_zero, List.set_cons_succ]))
 refine wpAnyH_done ?_ ?_ _
 ·decide +kernel
 have k1 := hide kW
 have sA1 := hide (sA.out.below kW)
 have sB1 := hide (sB.out.below kW)
 have y1 := hide (y0.out.below kW)
 have hz1 := hide (hz0.out.below kW)
 have hga := hide (hg1.out.below kW)
 have hgb := hide (hg2.out.below kW)
 obtain ⟨ma, hma⟩ := per_nat hp1 a
 obtain ⟨mb, hmb⟩ := per_nat hq1 a
 replace hma := hide hma
 replace hmb := hide hmb
 clear kW hHeld e2 e3 d1 d2
 go_upto_region 2 with (fail)
 generalize wQ = w1 at *
 refine wp_region_held_drew (S := (fun w' => w'.cell? ⟨bA, 0, none⟩ = some (.int .i64 A.p) ∧ w'.cell? ⟨bB, 0, none⟩ = some (.int .i64 B.p) ∧ w'.cell? ⟨bt, 0, none⟩ = some (.bool z.s) ∧ w'.cell? ⟨bt, 1, none⟩ = some (.slice z.a z.l z.c))) (by kernel_rfl) (⟨(sA1.out.below (grow_drew (Below.refl _ _))).c0, (sB1.out.below (grow_drew (Below.refl _ _))).c0, (y1.out.below (grow_drew (Below.refl _ _))).c0, (y1.out.below (grow_drew (Below.refl _ _))).c1⟩) (fun hHeld => ?_)
 show wpAnyH _ _ _ _ _ 16 _ _ _
 have kW := grow_drew (Below.refl w1.heap.size w1)
 generalize w1.drew = wQ at *
 repeat' first
  | with_reducible exact AllReadyH.nil
  | (
   refine wpAnyH_take (i := 0) (oi := ⟨some 29, _, _, _, _, _⟩) (v := ?_) rfl (by decide +kernel) (by decide +kernel) (by decide +kernel) (fun _ _ _ h => h) (Or.inl ⟨by rfl, ?_⟩) (by assumption) ?_
   rotate_left
   ·intro wq hSw; (try dsimp only at hSw); go_simp; (try with_reducible rfl)
   (try simp only [Act.put, List.setIfInBounds_toArray, List.set_cons_zero, List.set_cons_succ]))
  | (
   refine wpAnyH_take (i := 1) (oi := ⟨some 30, _, _, _, _, _⟩) (v := ?_) rfl (by decide +kernel) (by decide +kernel) (by decide +kernel) (fun _ _ _ h => h) (Or.inl ⟨by rfl, ?_⟩) (by assumption) ?_
   rotate_left
   ·intro wq hSw; (try dsimp only at hSw); go_simp; (try with_reducible rfl)
   (try simp only [Act.put, List.setIfInBounds_toArray, List.set_cons_zero, List.set_cons_succ]))
  | (
   refine wpAnyH_take (i := 2) (oi := ⟨some 31, _, _, _, _, _⟩) (v := ?_) rfl (by decide +kernel) (by decide +kernel) (by decide +kernel) (fun _ _ _ h => h) (Or.inl ⟨by rfl, ?_⟩) (by assumption) ?_
   rotate_left
   ·intro wq hSw; (try dsimp only at hSw); go_simp; (try with_reducible rfl)
   (try simp only [Act.put, List.setIfInBounds_toArray, List.set_cons_zero, List.set_cons_succ]))
  | (
   refine wpAnyH_take (i := 3) (oi := ⟨some 32, _, _, _, _, _⟩) (v := ?_) rfl (by decide +kernel) (by decide +kernel) (by decide +kernel) (fun _ _ _ h => h) (Or.inl ⟨by rfl, ?_⟩) (by assumption) ?_
   rotate_left
   ·intro wq hSw; (try dsimp only at hSw); go_simp; (try with_reducible rfl)
   (try simp only [Act.put, List.setIfInBounds_toArray, List.set_cons_zero, List.set_cons_succ]))
  | (
   refine wpAnyH_take (i := 4) (oi := ⟨some 33, _, _, _, _, _⟩) (v := ?_) rfl (by decide +kernel) (by decide +kernel) (by decide +kernel) (fun _ _ _ h => h) (Or.inl ⟨by rfl, ?_⟩) (by assumption) ?_
   rotate_left
   ·intro wq hSw; (try dsimp only at hSw); go_simp; (try with_reducible rfl)
   (try simp only [Act.put, List.setIfInBounds_toArray, List.set_cons_zero, List.set_cons_succ]))
  | (
   refine wpAnyH_take (i := 5) (oi := ⟨some 34, _, _, _, _, _⟩) (v := ?_) rfl (by decide +kernel) (by decide +kernel) (by decide +kernel) (fun _ _ _ h => h) (Or.inl ⟨by rfl, ?_⟩) (by assumption) ?_
   rotate_left
   ·intro wq hSw; (try dsimp only at hSw); go_simp; (try with_reducible rfl)
   (try simp only [Act.put, List.setIfInBounds_toArray, List.set_cons_zero, List.set_cons_succ]))
  | (
   refine wpAnyH_take (i := 7) (oi := ⟨some 36, _, _, _, _, _⟩) (v := ?_) rfl (by decide +kernel) (by decide +kernel) (by decide +kernel) (fun _ _ _ h => h) (Or.inl ⟨by rfl, ?_⟩) (by assumption) ?_
   rotate_left
   ·intro wq hSw; (try dsimp only at hSw); go_simp; (try with_reducible rfl)
   (try simp only [Act.put, List.setIfInBounds_toArray, List.set_cons_zero, List.set_cons_succ]))
  | (
   refine wpAnyH_take (i := 8) (oi := ⟨some 37, _, _, _, _, _⟩) (v := ?_) rfl (by decide +kernel) (by decide +kernel) (by decide +kernel) (fun _ _ _ h => h) (Or.inl ⟨by rfl, ?_⟩) (by assumption) ?_
   rotate_left
   ·intro wq hSw; (try dsimp only at hSw); go_simp; (try with_reducible rfl)
   (try simp only [Act.put, List.setIfInBounds_toArray, List.set_cons_zero, List.set_cons_succ]))
  | (
   refine wpAnyH_take (i := 9) (oi := ⟨some 38, _, _, _, _, _⟩) (v := ?_) rfl (by decide +kernel) (by decide +kernel) (by decide +kernel) (fun _ _ _ h => h) (Or.inl ⟨by rfl, ?_⟩) (by assumption) ?_
   rotate_left
   ·intro wq hSw; (try dsimp only at hSw); go_simp; (try with_reducible rfl)
   (try simp only [Act.put, List.setIfInBounds_toArray, List.set_cons_zero, List.set_cons_succ]))
  | (
   refine wpAnyH_take (i := 10) (oi := ⟨some 39, _, _, _, _, _⟩) (v := ?_) rfl (by decide +kernel) (by decide +kernel) (by decide +kernel) (fun _ _ _ h => h) (Or.inl ⟨by rfl, ?_⟩) (by assumption) ?_
   rotate_left
   ·intro wq hSw; (try dsimp only at hSw); go_simp; (try with_reducible rfl)
   (try simp only [Act.put, List.setIfInBounds_toArray, List.set_cons_zero, List.set_cons_succ]))
  | (
   refine wpAnyH_take (i := 11) (oi := ⟨some 40, _, _, _, _, _⟩) (v := ?_) rfl (by decide +kernel) (by decide +kernel) (by decide +kernel) (fun _ _ _ h => h) (Or.inl ⟨by rfl, ?_⟩) (by assumption) ?_
   rotate_left
   ·intro wq hSw; (try dsimp only at hSw); go_simp; (try with_reducible rfl)
   (try simp only [Act.put, List.setIfInBounds_toArray, List.set_cons_zero, List.set_cons_succ]))
  | (
   refine wpAnyH_take (i := 12) (oi := ⟨some 41, _, _, _, _, _⟩) (v := ?_) rfl (by decide +kernel) (by decide +kernel) (by decide +kernel) (fun _ _ _ h => h) (Or.inl ⟨by rfl, ?_⟩) (by assumption) ?_
   rotate_left
   ·intro wq hSw; (try dsimp only at hSw); go_simp; (try with_reducible rfl)
   (try simp only [Act.put, List.setIfInBounds_toArray, List.set_cons_zero, List.set_cons_succ]))
  | (refine wpAnyH_ready (rs := [6]) ?_ ?_ ?_; decide +kernel; simp)
  | (refine wpAnyH_ready (rs := [13]) ?_ ?_ ?_; decide +kernel; simp)
  | (refine wpAnyH_ready (rs := [14]) ?_ ?_ ?_; decide +kernel; simp)
  | (refine wpAnyH_ready (rs := [15]) ?_ ?_ ?_; decide +kernel; simp)
  | (
   first
    | (
     refine AllReadyH.cons (i := 6) (o := ⟨some 35, _, _, _, _, _⟩) rfl (fun K hK => ?_) ?_
     go_simp
     go_at_call 41; refine Calls.mono (remainderOf_n (hz1.out.below kW) hzl hp1 hp2) ?_; rintro e wC ⟨rfl, kC⟩; (try rw [hma.out])
     have kW := grow_step kC kW
     try go_wp2_with fail)
    | (
     refine AllReadyH.cons (i := 13) (o := ⟨some 42, _, _, _, _, _⟩) rfl (fun K hK => ?_) ?_
     go_simp
     go_at_call 41; refine Calls.mono (remainderOf_n (hz1.out.below kW) hzl hq1 hq2) ?_; rintro e wC ⟨rfl, kC⟩; (try rw [hmb.out])
     have kW := grow_step kC kW
     try go_wp2_with fail)
    | (
     refine AllReadyH.cons (i := 14) (o := ⟨some 11, _, _, _, _, _⟩) rfl (fun K hK => ?_) ?_
     go_simp)
    | (
     refine AllReadyH.cons (i := 15) (o := ⟨some 12, _, _, _, _, _⟩) rfl (fun K hK => ?_) ?_
     go_simp)
   refine hK.out _ _ ?_ ?_
   ·first | with_reducible exact trivial | ((try dsimp only); exact ⟨(sA1.out.below kW).c0, (sB1.out.below kW).c0, (y1.out.below kW).c0, (y1.out.below kW).c1⟩)
   clear hK K hHeld; intro hHeld
   (try simp only [Act.put, List.setIfInBounds_toArray, List.set_cons_zero, List.set_cons_succ]))
 all_goals
  refine wpAnyH_done ?_ ?_ _
  ·decide +kernel
  have k2 := hide (grow_step kW k1.out)
  have sA2 := hide (sA1.out.below kW)
  have sB2 := hide (sB1.out.below kW)
  have hga2 := hide (hga.out.below kW)
  have hgb2 := hide (hgb.out.below kW)
  clear kW hHeld
  generalize wC = w2 at *
  go_wp2_with fail
  go_loopw [11, 12, 44] (fun vl vr vi wr => ∃ k ml mr : Nat, k ≤ c ∧ vl = .int .i64 ml ∧ vr = .int .i64 mr ∧ vi = .int .i64 k ∧ (a + k) % (A.p : Int) = ml ∧ (a + k) % (B.p : Int) = mr ∧ (∀ t : Nat, t < k → rmem A.p xa (a + t) = rmem B.p xb (a + t)) ∧ Below w0.heap.size w0 wr) (fun _ _ vi _ => c - (intOf vi).toNat)
  case atStart => exact ⟨0, ma, mb, Nat.zero_le _, rfl, rfl, rfl, by simpa using hma.out, by simpa using hmb.out, fun t h => by omega, k2.out⟩
  case round =>
   obtain ⟨k, ml, mr, hk, rfl, rfl, rfl, hml, hmr, hag, kr⟩ := hrel
   replace hag := hide hag
   have hmlp : ml < A.p := by have := Int.emod_lt_of_pos (a + k) (show (0 : Int) < A.p by omega); omega
   have hmrp : mr < B.p := by have := Int.emod_lt_of_pos (a + k) (show (0 : Int) < B.p by omega); omega
   by_cases hkc : k < c
   ·have h1 := hide (has_b (hg1.out.below kr) hl1.out.len hl1.out.ws (r := ml) (lt_wn hmlp) (by omega))
    go_wp2_with fail
    refine h1.out.mono ?_
    rintro e w5 ⟨rfl, k5⟩
    have kr5 := hide (grow_step k5 kr)
    have h2 := hide (has_b (hg2.out.below kr5.out) hl2.out.len hl2.out.ws (r := mr) (lt_wn hmrp) (by omega))
    clear h1 k5
    go_wp2_with fail
    refine h2.out.mono ?_
    rintro e w6 ⟨rfl, k6⟩
    have kr6 := hide (grow_step k6 kr5.out)
    clear h2 k6
    have hv1 : Hid (rmem A.p xa (a + k) = hb xa ml) := hide (by unfold rmem; rw [hml]; rfl)
    have hv2 : Hid (rmem B.p xb (a + k) = hb xb mr) := hide (by unfold rmem; rw [hmr]; rfl)
    by_cases hx : hb xa ml = hb xb mr
    ·have hxb : (hb xa ml != hb xb mr) = false := by rw [hx]; simp
     have hxy : Hid (rmem A.p xa (a + k) = rmem B.p xb (a + k)) := hide (by rw [hv1.out, hv2.out, hx])
     have sA6 := hide (sA.out.below kr6.out)
     have sB6 := hide (sB.out.below kr6.out)
     clear kr
     have hpz : ¬ A.p = 0 := by omega
     have hqz : ¬ B.p = 0 := by omega
     obtain ⟨m1, hm1⟩ := per_nat hp1 (a + ((k + 1 : Nat) : Int))
     obtain ⟨m2, hm2⟩ := per_nat hq1 (a + ((k + 1 : Nat) : Int))
     have ht1 : (IntKind.i64.wrap ((ml : Int) + 1)).tmod (A.p : Int) = (m1 : Int) := by
      rw [show IntKind.i64.wrap ((ml : Int) + 1) = (ml : Int) + 1 by rw [IntKind.wrap_i64]; omega, Int.tmod_eq_emod_of_nonneg (by omega), step_mod hp1 a k ml hml, hm1]
     have ht2 : (IntKind.i64.wrap ((mr : Int) + 1)).tmod (B.p : Int) = (m2 : Int) := by
      rw [show IntKind.i64.wrap ((mr : Int) + 1) = (mr : Int) + 1 by rw [IntKind.wrap_i64]; omega, Int.tmod_eq_emod_of_nonneg (by omega), step_mod hq1 a k mr hmr, hm2]
     replace hm1 := hide hm1
     replace hm2 := hide hm2
     replace hml := hide hml
     replace hmr := hide hmr
     go_upto_region 7 with (fail)
     refine wp_region_held_drew (S := (fun w' => w'.cell? ⟨bA, 0, none⟩ = some (.int .i64 A.p) ∧ w'.cell? ⟨bB, 0, none⟩ = some (.int .i64 B.p))) (by kernel_rfl) (⟨(sA6.out.below (grow_drew (Below.refl _ _))).c0, (sB6.out.below (grow_drew (Below.refl _ _))).c0⟩) (fun hHeld => ?_)
     show wpAnyH _ _ _ _ _ 16 _ _ _
     have kW := grow_drew (Below.refl w6.heap.size w6)
     generalize w6.drew = wQ at *
     repeat' first
      | with_reducible exact AllReadyH.nil
      | (
       refine wpAnyH_take (i := 0) (oi := ⟨some 53, _, _, _, _, _⟩) (v := ?_) rfl (by decide +kernel) (by decide +kernel) (by decide +kernel) (fun _ _ _ h => h) (Or.inl ⟨by rfl, ?_⟩) (by assumption) ?_
       rotate_left
       ·intro wq hSw; (try dsimp only at hSw); go_simp; (try with_reducible rfl)
       (try simp only [Act.put, List.setIfInBounds_toArray, List.set_cons_zero, List.set_cons_succ]))
      | (
       refine wpAnyH_take (i := 1) (oi := ⟨some 54, _, _, _, _, _⟩) (v := ?_) rfl (by decide +kernel) (by decide +kernel) (by decide +kernel) (fun _ _ _ h => h) (Or.inl ⟨by rfl, ?_⟩) (by assumption) ?_
       rotate_left
       ·intro wq hSw; (try dsimp only at hSw); go_simp; (try with_reducible rfl)
       (try simp only [Act.put, List.setIfInBounds_toArray, List.set_cons_zero, List.set_cons_succ]))
      | (
       refine wpAnyH_take (i := 2) (oi := ⟨some 55, _, _, _, _, _⟩) (v := ?_) rfl (by decide +kernel) (by decide +kernel) (by decide +kernel) (fun _ _ _ h => h) (Or.inl ⟨by rfl, ?_⟩) (by assumption) ?_
       rotate_left
       ·intro wq hSw; (try dsimp only at hSw); go_simp; (try with_reducible rfl)
       (try simp only [Act.put, List.setIfInBounds_toArray, List.set_cons_zero, List.set_cons_succ]))
      | (
       refine wpAnyH_take (i := 3) (oi := ⟨some 56, _, _, _, _, _⟩) (v := ?_) rfl (by decide +kernel) (by decide +kernel) (by decide +kernel) (fun _ _ _ h => h) (Or.inl ⟨by rfl, ?_⟩) (by assumption) ?_
       rotate_left
       ·intro wq hSw; (try dsimp only at hSw); go_simp; (try with_reducible rfl)
       (try simp only [Act.put, List.setIfInBounds_toArray, List.set_cons_zero, List.set_cons_succ]))
      | (
       refine wpAnyH_take (i := 4) (oi := ⟨some 57, _, _, _, _, _⟩) (v := ?_) rfl (by decide +kernel) (by decide +kernel) (by decide +kernel) (fun _ _ _ h => h) (Or.inl ⟨by rfl, ?_⟩) (by assumption) ?_
       rotate_left
       ·intro wq hSw; (try dsimp only at hSw); go_simp; (try with_reducible rfl)
       (try simp only [Act.put, List.setIfInBounds_toArray, List.set_cons_zero, List.set_cons_succ]))
      | (
       refine wpAnyH_take (i := 5) (oi := ⟨some 58, _, _, _, _, _⟩) (v := ?_) rfl (by decide +kernel) (by decide +kernel) (by decide +kernel) (fun _ _ _ h => h) (Or.inl ⟨by rfl, ?_⟩) (by assumption) ?_
       rotate_left
       ·intro wq hSw; (try dsimp only at hSw); go_simp; (try with_reducible rfl)
       (try simp only [Act.put, List.setIfInBounds_toArray, List.set_cons_zero, List.set_cons_succ]))
      | (
       refine wpAnyH_take (i := 6) (oi := ⟨some 59, _, _, _, _, _⟩) (v := ?_) rfl (by decide +kernel) (by decide +kernel) (by decide +kernel) (fun _ _ _ h => h) (Or.inl ⟨by rfl, ?_⟩) (by assumption) ?_
       rotate_left
       ·intro wq hSw; (try dsimp only at hSw); go_simp; (try with_reducible rfl)
       (try simp only [Act.put, List.setIfInBounds_toArray, List.set_cons_zero, List.set_cons_succ]))
      | (
       refine wpAnyH_take (i := 7) (oi := ⟨some 60, _, _, _, _, _⟩) (v := ?_) rfl (by decide +kernel) (by decide +kernel) (by decide +kernel) (fun _ _ _ h => h) (Or.inl ⟨by rfl, ?_⟩) (by assumption) ?_
       rotate_left
       ·intro wq hSw; (try dsimp only at hSw); go_simp; (try with_reducible rfl)
       (try simp only [Act.put, List.setIfInBounds_toArray, List.set_cons_zero, List.set_cons_succ]))
      | (
       refine wpAnyH_take (i := 8) (oi := ⟨some 61, _, _, _, _, _⟩) (v := ?_) rfl (by decide +kernel) (by decide +kernel) (by decide +kernel) (fun _ _ _ h => h) (Or.inl ⟨by rfl, ?_⟩) (by assumption) ?_
       rotate_left
       ·intro wq hSw; (try dsimp only at hSw); go_simp; (try with_reducible rfl)
       (try simp only [Act.put, List.setIfInBounds_toArray, List.set_cons_zero, List.set_cons_succ]))
      | (
       refine wpAnyH_take (i := 9) (oi := ⟨some 62, _, _, _, _, _⟩) (v := ?_) rfl (by decide +kernel) (by decide +kernel) (by decide +kernel) (fun _ _ _ h => h) (Or.inl ⟨by rfl, ?_⟩) (by assumption) ?_
       rotate_left
       ·intro wq hSw; (try dsimp only at hSw); go_simp; (try with_reducible rfl)
       (try simp only [Act.put, List.setIfInBounds_toArray, List.set_cons_zero, List.set_cons_succ]))
      | (
       refine wpAnyH_take (i := 10) (oi := ⟨some 63, _, _, _, _, _⟩) (v := ?_) rfl (by decide +kernel) (by decide +kernel) (by decide +kernel) (fun _ _ _ h => h) (Or.inl ⟨by rfl, ?_⟩) (by assumption) ?_
       rotate_left
       ·intro wq hSw; (try dsimp only at hSw); go_simp; (try with_reducible rfl)
       (try simp only [Act.put, List.setIfInBounds_toArray, List.set_cons_zero, List.set_cons_succ]))
      | (
       refine wpAnyH_take (i := 11) (oi := ⟨some 64, _, _, _, _, _⟩) (v := ?_) rfl (by decide +kernel) (by decide +kernel) (by decide +kernel) (fun _ _ _ h => h) (Or.inl ⟨by rfl, ?_⟩) (by assumption) ?_
       rotate_left
       ·intro wq hSw; (try dsimp only at hSw); go_simp; (try with_reducible rfl)
       (try simp only [Act.put, List.setIfInBounds_toArray, List.set_cons_zero, List.set_cons_succ]))
      | (
       refine wpAnyH_take (i := 12) (oi := ⟨some 65, _, _, _, _, _⟩) (v := ?_) rfl (by decide +kernel) (by decide +kernel) (by decide +kernel) (fun _ _ _ h => h) (Or.inl ⟨by rfl, ?_⟩) (by assumption) ?_
       rotate_left
       ·intro wq hSw; (try dsimp only at hSw); go_simp; (try with_reducible rfl)
       (try simp only [Act.put, List.setIfInBounds_toArray, List.set_cons_zero, List.set_cons_succ]))
      | (
       refine wpAnyH_take (i := 13) (oi := ⟨some 66, _, _, _, _, _⟩) (v := ?_) rfl (by decide +kernel) (by decide +kernel) (by decide +kernel) (fun _ _ _ h => h) (Or.inl ⟨by rfl, ?_⟩) (by assumption) ?_
       rotate_left
       ·intro wq hSw; (try dsimp only at hSw); go_simp; (try with_reducible rfl)
       (try simp only [Act.put, List.setIfInBounds_toArray, List.set_cons_zero, List.set_cons_succ]))
      | (refine wpAnyH_ready (rs := [14]) ?_ ?_ ?_; decide +kernel; simp)
      | (refine wpAnyH_ready (rs := [15]) ?_ ?_ ?_; decide +kernel; simp)
      | (
       first
        | (
         refine AllReadyH.cons (i := 14) (o := ⟨some 11, _, _, _, _, _⟩) rfl (fun K hK => ?_) ?_
         go_simp)
        | (
         refine AllReadyH.cons (i := 15) (o := ⟨some 12, _, _, _, _, _⟩) rfl (fun K hK => ?_) ?_
         go_simp)
       refine hK.out _ _ ?_ ?_
       ·first | with_reducible exact trivial | ((try dsimp only); exact ⟨(sA6.out.below kW).c0, (sB6.out.below kW).c0⟩)
       clear hK K hHeld; intro hHeld
       (try simp only [Act.put, List.setIfInBounds_toArray, List.set_cons_zero, List.set_cons_succ]))
     refine wpAnyH_done ?_ ?_ _
     ·decide +kernel
     have kf := hide (grow_step kW kr6.out)
     clear kW hHeld
     go_wp2
     go_roundw
     case measure => simp [intOf]; omega
     case rel => exact ⟨k + 1, m1, m2, by omega, rfl, rfl, by go_num, hm1.out, hm2.out, fun t ht => by
       by_cases e : t = k
       ·subst e; exact hxy.out
       ·exact hag.out t (by omega), kf.out⟩
    ·have kfin : Hid (Below w.heap.size w w6) := hide (by rw [hbe.out]; exact k0.out.trans (kr6.out.mono (Nat.le_of_lt hbt)))
     have hno : Hid (¬ ∀ k : Nat, k < c → rmem A.p xa (a + k) = rmem B.p xb (a + k)) := hide fun h => hx (by rw [← hv1.out, ← hv2.out]; exact h k hkc)
     cases hu : hb xa ml <;> cases hw : hb xb mr
     ·exact absurd (hu.trans hw.symm) hx
     ·clear hx
      go_wp2
      exact bodyPost_ret (results_tmp rfl _ _ _) rfl ⟨false, rfl, kfin.out, ⟨fun h => (by cases h), fun h => absurd h hno.out⟩⟩
     ·clear hx
      go_wp2
      exact bodyPost_ret (results_tmp rfl _ _ _) rfl ⟨false, rfl, kfin.out, ⟨fun h => (by cases h), fun h => absurd h hno.out⟩⟩
     ·exact absurd (hu.trans hw.symm) hx
   ·obtain rfl : k = c := by omega
    have kfin : Hid (Below w.heap.size w wr) := hide (by rw [hbe.out]; exact k0.out.trans (kr.mono (Nat.le_of_lt hbt)))
    clear kr
    go_wp2
    exact bodyPost_ret (results_tmp rfl _ _ _) rfl ⟨true, rfl, kfin.out, ⟨fun _ t ht => hag.out t ht, fun _ => rfl⟩⟩
end Pd
end Go.Proofs.Ytojciccmjpabmaa

namespace Go.Proofs.Ytojciccmjpabmaa
open Go.RowKit
namespace Pd
/-- each number lies in a stretch -/
theorem str_find {a b : List Int} {L : List SE} (h : Str a b L a.length b.length) (x : Int) : ∃ k, k < L.length ∧ (1 ≤ k → (se L k).f ≤ x) ∧ (k + 1 < L.length → x < (se L (k + 1)).f) := by
 have aux : ∀ n, 1 ≤ n → n ≤ L.length → (n < L.length → x < (se L n).f) → ∃ k, k < L.length ∧ (1 ≤ k → (se L k).f ≤ x) ∧ (k + 1 < L.length → x < (se L (k + 1)).f) := by
  intro n
  induction n with
  | zero => exact fun h => by omega
  | succ n ih =>
   intro h1 h2 h3
   by_cases e : n = 0
   ·subst e
    exact ⟨0, by omega, fun h => by omega, h3⟩
   ·by_cases hx : x < (se L n).f
    ·exact ih (by omega) (by omega) fun _ => hx
    ·exact ⟨n, by omega, fun _ => by omega, h3⟩
 exact aux L.length h.ne (Nat.le_refl _) fun h => absurd h (Nat.lt_irrefl _)
/-- the sets have the same numbers just where they agree on so many of each stretch -/
theorem agree_iff {A B : PD} (hA : Wf A) (hB : Wf B) {L : List SE} (h : Str A.cs B.cs L A.cs.length B.cs.length) {F : Nat → Int} {C : Nat → Nat} (hF : ∀ k, 1 ≤ k → F k = (se L k).f)
  (h1 : ∀ k, k < L.length → C k = A.p + B.p ∨ (1 ≤ k ∧ k + 1 < L.length ∧ (C k : Int) = F (k + 1) - F k)) (h2 : ∀ k, k + 1 < L.length → F k + C k ≤ F (k + 1)) :
  (∀ k, k < L.length → ∀ t : Nat, t < C k → rmem A.p (rw' A (se L k).i) (F k + t) = rmem B.p (rw' B (se L k).j) (F k + t)) ↔ ∀ x, mem A x = mem B x := by
 have hm : ∀ k x, k < L.length → (1 ≤ k → (se L k).f ≤ x) → (k + 1 < L.length → x < (se L (k + 1)).f) → mem A x = rmem A.p (rw' A (se L k).i) x ∧ mem B x = rmem B.p (rw' B (se L k).j) x := fun k x hk a1 a2 => by
  obtain ⟨e1, e2⟩ := str_place h hk a1 a2
  unfold mem rmem
  rw [e1, e2]
  exact ⟨rfl, rfl⟩
 constructor
 ·intro hall x
  obtain ⟨k, hk, a1, a2⟩ := str_find h x
  obtain ⟨m1, m2⟩ := hm k x hk a1 a2
  rw [m1, m2]
  rcases h1 k hk with e | ⟨c1, c2, c3⟩
  ·exact rows_agree hA.p1 hB.p1 (a := F k) (fun t ht => hall k hk t (by omega)) x
  ·have a1 := a1 c1
   have a2 := a2 c2
   rw [← hF k c1] at a1
   rw [← hF (k + 1) (by omega)] at a2
   have := hall k hk (x - F k).toNat (by omega)
   rwa [show F k + ((x - F k).toNat : Int) = x by omega] at this
 ·intro hall k hk t ht
  have a1 : 1 ≤ k → (se L k).f ≤ F k + t := fun h => by rw [← hF k h]; omega
  have a2 : k + 1 < L.length → F k + t < (se L (k + 1)).f := fun h => by
   have := h2 k h
   rw [← hF (k + 1) (by omega)]
   omega
  obtain ⟨m1, m2⟩ := hm k (F k + t) hk a1 a2
  rw [← m1, ← m2]
  exact hall _
/-- a number stays where a block of another type changes -/
theorem zn_grown {w w' : World} {s : Bool} {a : Option Addr} {l c : Nat} {x : Int} {o : Option Nat} (h : Fresh.Zn 0 w s a l c x) (hg : w.grownBy w' o) (ho : ∀ g, o = some g → ∃ e, Own w g e ∧ 78 ≠ e) : Fresh.Zn 0 w' s a l c x := by
 obtain ⟨n, ⟨⟨zs, hr, hc, hv⟩, -, hf⟩, hs, hn⟩ := h
 have hf' : Fresh.Fr 0 w' a c := by
  rcases hf with hf | ⟨b, xs, e, h0, hrow, h1⟩
  ·exact .inl hf
  ·exact .inr ⟨b, xs, e, h0, (hg.block b hrow.lt fun e => by
    obtain ⟨t, h3, h4⟩ := ho b e.symm
    exact h3.ne hrow h4 rfl).trans hrow, h1⟩
 refine ⟨n, ⟨⟨zs, ?_, hc, hv⟩, Nat.zero_le _, hf'⟩, hs, hn⟩
 obtain ⟨h1, h2, h3, h4, h5⟩ := hr
 refine ⟨h1, h2, h3, h4, ?_⟩
 rcases h5 with h5 | ⟨a0, ha, h5⟩
 ·exact .inl h5
 ·refine .inr ⟨a0, ha, h5.imp id ?_⟩
  rintro ⟨b, off, rfl, hb, hcell⟩
  have hne : some b ≠ o := fun e => by
   rcases hf with ⟨e2, -⟩ | ⟨b', xs, e2, -, hrow, -⟩
   ·rw [e2] at ha; cases ha
   ·rw [e2] at ha
    cases ha
    obtain ⟨t, h3, h4⟩ := ho b e.symm
    exact h3.ne hrow h4 rfl
  exact ⟨b, off, rfl, Nat.lt_of_lt_of_le hb hg.size, fun i hi => (World.cell?_of_block (a := ⟨b, off + i, none⟩) (hg.block b hb hne)).trans (hcell i hi)⟩
/-- stretches to be looked at -/
def EL2 (w : World) (g n : Nat) (L : List SE) (F : Nat → Int) : Prop :=
 g < w.heap.size ∧ ∀ k, k < n → ∃ z : ZV, w.cell? ⟨g, k * 4, none⟩ = some (.bool z.s) ∧ w.cell? ⟨g, k * 4 + 1, none⟩ = some (.slice z.a z.l z.c) ∧ w.cell? ⟨g, k * 4 + 2, none⟩ = some (.int .i64 (se L k).i) ∧ w.cell? ⟨g, k * 4 + 3, none⟩ = some (.int .i64 (se L k).j) ∧ Zm w z.s z.a z.l z.c (F k) ∧ z.l ≤ 1073741826
theorem EL2.below {w w' : World} {g n : Nat} {L : List SE} {F : Nat → Int} (h : EL2 w g n L F) (k : Below w.heap.size w w') : EL2 w' g n L F := by
 refine ⟨Nat.lt_of_lt_of_le h.1 k.size, fun i hi => ?_⟩
 obtain ⟨z, h0, h1, h2, h3, h4, h5⟩ := h.2 i hi
 exact ⟨z, (k.cell (p := ⟨g, _, none⟩) h.1).trans h0, (k.cell (p := ⟨g, _, none⟩) h.1).trans h1, (k.cell (p := ⟨g, _, none⟩) h.1).trans h2, (k.cell (p := ⟨g, _, none⟩) h.1).trans h3, h4.below k, h5⟩
/-- the first stretch begins elsewhere -/
theorem el_first {w : World} {g n c : Nat} {L : List SE} (h : ELs w (some ⟨g, 0, none⟩) n c L) (_hn : 1 ≤ n) {z : ZV} {f : Int} (hz : Fresh.Zn 0 w z.s z.a z.l z.c f) (hl : z.l ≤ 1073741826) :
  EL2 ((w.setCell ⟨g, 0, none⟩ (.bool z.s)).setCell ⟨g, 1, none⟩ (.slice z.a z.l z.c)) g n L (fun k => if k = 0 then f else (se L k).f) := by
 have ho := only2 g w (.bool z.s) (.slice z.a z.l z.c)
 obtain ⟨b, e, hO, q, hq, hc⟩ := h.at'
 cases e
 have hln := h.len
 have hql := hq.len
 have hsz : ((w.setCell ⟨g, 0, none⟩ (.bool z.s)).setCell ⟨g, 1, none⟩ (.slice z.a z.l z.c)).heap.size = w.heap.size := ho.size
 have hz' := zn_grown (o := some g) hz (grown_only ho) fun g' e => by cases e; exact ⟨_, hO, by decide⟩
 have hq' := hq.only ho hO
 obtain ⟨cur, hcur⟩ := hO
 have w1 := heap_setCell_same w g 0 cur 102 (.bool z.s) hcur
 have w2 := heap_setCell_same _ g 1 _ 102 (.slice z.a z.l z.c) w1
 refine ⟨by rw [hsz]; exact (Array.getElem?_eq_some_iff.1 hcur).1, fun k hk => ?_⟩
 have hcell : ∀ o, 2 ≤ o → ((w.setCell ⟨g, 0, none⟩ (.bool z.s)).setCell ⟨g, 1, none⟩ (.slice z.a z.l z.c)).cell? ⟨g, o, none⟩ = w.cell? ⟨g, o, none⟩ := fun o h2 => by
  rw [cell_of_row _ g o _ _ (0, 0) w2, cell_of_row w g o _ _ (0, 0) hcur]
  simp only [Array.getElem?_setIfInBounds]
  rw [if_neg (by omega), if_neg (by omega)]
 have hlt : ∀ o v, w.cell? ⟨g, o, none⟩ = some v → o < cur.size := fun o v hv => by
  rw [cell_of_row w g o _ _ (0, 0) hcur] at hv
  exact (Array.getElem?_eq_some_iff.1 hv).1
 have hc0 := hc k (by omega) 0 (by decide)
 have hc1 := hc k (by omega) 1 (by decide)
 have hc2 := hc k (by omega) 2 (by decide)
 have hc3 := hc k (by omega) 3 (by decide)
 obtain ⟨n1, n2, n3⟩ := hq.nu k (by omega)
 by_cases e : k = 0
 ·subst e
  refine ⟨z, ?_, ?_, ?_, ?_, ?_, hl⟩
  ·rw [cell_of_row _ g _ _ _ (0, 0) w2]
   have h0 : 0 < cur.size := hlt _ _ hc0
   simp [h0]
  ·rw [cell_of_row _ g _ _ _ (0, 0) w2]
   have h0 : 1 < cur.size := hlt _ _ hc1
   simp [h0]
  ·rw [hcell _ (by omega), ← n2]; exact hc2
  ·rw [hcell _ (by omega), ← n3]; exact hc3
  ·show Zm _ _ _ _ _ (if (0 : Nat) = 0 then f else (se L 0).f)
   rw [if_pos rfl]
   exact hz'.zn.zm
 ·have n1' := (hq'.nu k (by omega)).1
  refine ⟨q[k].z, ?_, ?_, ?_, ?_, ?_, Nat.le_trans n1.le (by decide)⟩
  ·rw [hcell _ (by omega)]; exact hc0
  ·rw [hcell _ (by omega)]; exact hc1
  ·rw [hcell _ (by omega), ← n2]; exact hc2
  ·rw [hcell _ (by omega), ← n3]; exact hc3
  ·show Zm _ _ _ _ _ (if k = 0 then f else (se L k).f)
   rw [if_neg e]
   exact n1'.zm
/-- how many numbers of a stretch are looked at -/
def cnt (F : Nat → Int) (m E k : Nat) : Nat := if k < m then (if F (k + 1) - F k < E then (F (k + 1) - F k).toNat else E) else E
theorem cnt_le (F : Nat → Int) (m E k : Nat) : cnt F m E k ≤ E := by
 unfold cnt
 split
 ·split
  ·omega
  ·exact Nat.le_refl _
 ·exact Nat.le_refl _
theorem agree_all {A B : PD} (hA : Wf A) (hB : Wf B) {L : List SE} (h : Str A.cs B.cs L A.cs.length B.cs.length) {m : Nat} (hm : L.length = m + 1) {f : Int} (hf : 1 ≤ m → f + (A.p + B.p : Nat) = (se L 1).f) :
  (∀ k, k < m + 1 → ∀ t : Nat, t < cnt (fun k => if k = 0 then f else (se L k).f) m (A.p + B.p) k → rmem A.p (rw' A (se L k).i) ((if k = 0 then f else (se L k).f) + t) = rmem B.p (rw' B (se L k).j) ((if k = 0 then f else (se L k).f) + t)) ↔ ∀ x, mem A x = mem B x := by
 have := agree_iff hA hB h (F := fun k => if k = 0 then f else (se L k).f) (C := cnt (fun k => if k = 0 then f else (se L k).f) m (A.p + B.p)) (fun k hk => if_neg (by omega)) (fun k hk => ?_) (fun k hk => ?_)
 ·rw [hm] at this
  exact this
 ·by_cases e : k = 0
  ·subst e
   refine .inl ?_
   unfold cnt
   by_cases e : 0 < m
   ·have := hf e
    rw [if_pos e, if_neg]
    simp only [Nat.zero_add, Nat.one_ne_zero, if_false, if_true]
    omega
   ·rw [if_neg e]
  ·unfold cnt
   by_cases e2 : k < m
   ·rw [if_pos e2]
    have hup := h.up k (by omega) (by omega)
    simp only [e, Nat.succ_ne_zero, if_false]
    by_cases e3 : (se L (k + 1)).f - (se L k).f < ((A.p + B.p : Nat) : Int)
    ·rw [if_pos e3]
     refine .inr ⟨by omega, by omega, ?_⟩
     omega
    ·rw [if_neg e3]
     exact .inl rfl
   ·rw [if_neg e2]
    exact .inl rfl
 ·have hkm : k < m := by omega
  unfold cnt
  rw [if_pos hkm]
  by_cases e : k = 0
  ·subst e
   have := hf (by omega)
   simp only [Nat.zero_add, Nat.one_ne_zero, if_false, if_true]
   rw [if_neg (by omega)]
   omega
  ·have hup := h.up k (by omega) (by omega)
   simp only [e, Nat.succ_ne_zero, if_false]
   split <;> omega
end Pd
end Go.Proofs.Ytojciccmjpabmaa

namespace Go.Proofs.Ytojciccmjpabmaa
open Go.RowKit
namespace Pd

/-- a whole number of 64 bits -/
def Iw (v : Int) : Prop := -9223372036854775808 ≤ v ∧ v ≤ 9223372036854775807
/-- a wanted set -/
structure MkD where
 k : Int
 a : Int
 b : Int
 x : Int
 d : Int
/-- its seven cells -/
structure MKc (w : World) (b off : Nat) (m : MkD) (zk zd : ZV) : Prop where
 c0 : w.cell? ⟨b, off, none⟩ = some (.int .i64 m.k)
 c1 : w.cell? ⟨b, off + 1, none⟩ = some (.int .i64 m.a)
 c2 : w.cell? ⟨b, off + 2, none⟩ = some (.int .i64 m.b)
 c3 : w.cell? ⟨b, off + 3, none⟩ = some (.bool zk.s)
 c4 : w.cell? ⟨b, off + 4, none⟩ = some (.slice zk.a zk.l zk.c)
 c5 : w.cell? ⟨b, off + 5, none⟩ = some (.bool zd.s)
 c6 : w.cell? ⟨b, off + 6, none⟩ = some (.slice zd.a zd.l zd.c)
 nk : Zm w zk.s zk.a zk.l zk.c m.x
 kl : zk.l ≤ 1048576
 nd : Zm w zd.s zd.a zd.l zd.c m.d
 dl : zd.l ≤ 1048576
 ik : Iw m.k
 ia : Iw m.a
 ib : Iw m.b
/-- wanted sets in a slice -/
def MLs (w : World) (ad : Option Addr) (n : Nat) (R : List MkD) : Prop :=
 R.length = n ∧ (n = 0 ∨ ∃ b off, ad = some ⟨b, off, none⟩ ∧ b < w.heap.size ∧ ∀ i (h : i < R.length), ∃ zk zd, MKc w b (off + i * 7) R[i] zk zd)
theorem MKc.below {w w' : World} {b off : Nat} {m : MkD} {zk zd : ZV} (h : MKc w b off m zk zd) (hb : b < w.heap.size) (k : Below w.heap.size w w') : MKc w' b off m zk zd :=
 ⟨(k.cell (p := ⟨b, _, none⟩) hb).trans h.c0, (k.cell (p := ⟨b, _, none⟩) hb).trans h.c1, (k.cell (p := ⟨b, _, none⟩) hb).trans h.c2, (k.cell (p := ⟨b, _, none⟩) hb).trans h.c3, (k.cell (p := ⟨b, _, none⟩) hb).trans h.c4, (k.cell (p := ⟨b, _, none⟩) hb).trans h.c5, (k.cell (p := ⟨b, _, none⟩) hb).trans h.c6, h.nk.below k, h.kl, h.nd.below k, h.dl, h.ik, h.ia, h.ib⟩
theorem MLs.below {w w' : World} {ad : Option Addr} {n : Nat} {R : List MkD} (h : MLs w ad n R) (k : Below w.heap.size w w') : MLs w' ad n R := by
 refine ⟨h.1, h.2.imp id ?_⟩
 rintro ⟨b, off, e, hb, hc⟩
 refine ⟨b, off, e, Nat.lt_of_lt_of_le hb k.size, fun i hi => ?_⟩
 obtain ⟨zk, zd, h1⟩ := hc i hi
 exact ⟨zk, zd, h1.below hb k⟩
/-- numbers that are handed in -/
def XP (w : World) (ad : Option Addr) (n c : Nat) (q : List ZV) (xs : List Int) : Prop :=
 xs.length = n ∧ q.length = n ∧ (ad = none → n = 0 ∧ c = 0) ∧ (∀ i (h : i < q.length) (h' : i < xs.length), Zm w q[i].s q[i].a q[i].l q[i].c xs[i] ∧ q[i].l ≤ 1048576) ∧
  (n = 0 ∨ ∃ b off, ad = some ⟨b, off, none⟩ ∧ b < w.heap.size ∧ ∀ i (h : i < q.length) j, j < 2 → w.cell? ⟨b, off + (i * 2 + j), none⟩ = (q[i]).enc[j]?)
theorem XP.below {w w' : World} {ad : Option Addr} {n c : Nat} {q : List ZV} {xs : List Int} (h : XP w ad n c q xs) (k : Below w.heap.size w w') : XP w' ad n c q xs := by
 refine ⟨h.1, h.2.1, h.2.2.1, fun i h1 h2 => ⟨(h.2.2.2.1 i h1 h2).1.below k, (h.2.2.2.1 i h1 h2).2⟩, h.2.2.2.2.imp id ?_⟩
 rintro ⟨b, off, e, hb, hc⟩
 exact ⟨b, off, e, Nat.lt_of_lt_of_le hb k.size, fun i hi j hj => (k.cell (p := ⟨b, off + (i * 2 + j), none⟩) hb).trans (hc i hi j hj)⟩
end Pd
end Go.Proofs.Ytojciccmjpabmaa

namespace Go.Proofs.Ytojciccmjpabmaa
open Go.RowKit
namespace Pd

/-- the spare room of a list holds noughts -/
def SpZ (w : World) (zc : Array Value) (v : Value) : Prop := ∀ g n cap, v = .slice (some ⟨g, 0, none⟩) n cap → ∀ j, n * zc.size ≤ j → j < cap * zc.size → w.cell? ⟨g, j, none⟩ = some zc[j % zc.size]!
theorem SpZ.below {w w' : World} {zc : Array Value} {v : Value} (h : SpZ w zc v) (hb : Below w.heap.size w w') : SpZ w' zc v := fun g n cap e j h1 h2 => by
 have hc := h g n cap e j h1 h2
 exact (hb.cell (p := ⟨g, j, none⟩) (World.block_lt_of_cell? w ⟨g, j, none⟩ hc)).trans hc
theorem zero_get (z : Array Value) (k j : Nat) (h : j < k * z.size) : (Builtin.zeroCells z k)[j]? = some z[j % z.size]! := by
 simp [Builtin.zeroCells, h]
theorem mod_shift {a n j : Nat} (h : n * a ≤ j) : (j - n * a) % a = j % a := by
 have e : j = (j - n * a) + n * a := by omega
 conv => rhs; rw [e]
 rw [Nat.add_mul_mod_self_right]
theorem spzm {P : Program} {w : World} {base : Nat} {t ty e : TypeId} {i : TypeInfo} {z : Value} {size bytes : Nat} (ht : P.underlying t = some (.slice e)) (hi : P.info? e = some i) (hz : i.zero = some z)
  (hsize : i.size = size) (hby : i.bytes = bytes) (hzs : z.cells.size = size)
  {v : Value} {n m : Nat} {xs : List Value} (hown : w.ownsRow base e size v n xs) (hsp : SpZ w z.cells v) (hne : v ≠ .slice none 0 0)
  {a : Addr} {c : Nat} {news : List Value} (hl : news.length = m * size) (hnews : ∀ j u, news[j]? = some u → w.cell? (a.add j) = some u) (h1 : ∀ u ∈ news, u.oneCell' = true)
  (h63 : n + m ≤ maxLen) (hbytes : (n + m) * bytes ≤ 140737488355328) {v' : Value} {w' : World} (hr : (Builtin.append_ #[t, t] ty #[v, .slice (some a) m c]).run P w = .ok v' w') : SpZ w' z.cells v' ∧ v' ≠ .slice none 0 0 := by
 subst hsize
 subst hby
 have hmx : n + m ≤ 9223372036854775807 := by simp only [maxLen] at h63; omega
 rcases hown.2 with ⟨rfl, rfl⟩ | ⟨g, cap, cur, rfl, hbg, hg, hnc, hcm, hcs, htake⟩
 ·exact absurd rfl hne
 ·by_cases hroom : n + m ≤ cap
  ·have hfit : n * i.size + news.length ≤ cur.size := by rw [hl, hcs, ← Nat.add_mul]; exact Nat.mul_le_mul_right _ hroom
   have hr2 := run_append_room (P := P) w t ty e i ht hi g n cap cur hg a m c news hl hnews h1 hroom hfit
   rw [hr2] at hr
   simp only [Result.ok.injEq] at hr
   obtain ⟨rfl, rfl⟩ := hr
   refine ⟨?_, fun h => by cases h⟩
   intro g' n' cap' he j hj1 hj2
   simp only [Value.slice.injEq, Option.some.injEq, Addr.mk.injEq] at he
   obtain ⟨⟨rfl, _⟩, rfl, rfl⟩ := he
   have hold := hsp g n cap rfl j (by rw [Nat.add_mul] at hj1; omega) hj2
   rw [cell_of_row w g j _ _ (0, 0) hg] at hold
   rw [cell_of_row _ g j _ _ (0, 0) (setRow_heap w g cur _ e _ hg)]
   rw [← hold]
   rw [hzs] at hj1 hj2
   rw [Nat.add_mul] at hj1
   have e1 : (cur.toList.take (n * i.size) ++ news).length = n * i.size + m * i.size := by
    rw [List.length_append, List.length_take, Array.length_toList, hl, hcs]
    have : n * i.size ≤ cap * i.size := Nat.mul_le_mul_right _ hnc
    omega
   rw [List.getElem?_toArray, List.getElem?_append_right (by omega), e1, List.getElem?_drop, Array.getElem?_toList]
   congr 1
   omega
  ·have holds : ∀ j u, xs[j]? = some u → w.cell? ((⟨g, 0, none⟩ : Addr).add j) = some u := hown.cells (g := g) rfl
   have hr2 := run_append_grow (P := P) w t ty e i z ht hi hz ⟨g, 0, none⟩ n cap xs hown.1 holds a m c news hl hnews (by omega) (by omega) (growslice_fits (by omega) hbytes)
   rw [hr2] at hr
   simp only [Result.ok.injEq] at hr
   obtain ⟨rfl, rfl⟩ := hr
   refine ⟨?_, fun h => by cases h⟩
   intro g' n' cap' he j hj1 hj2
   have hge := grownCap_ge w (n + m) cap e
   simp only [Value.slice.injEq, Option.some.injEq, Addr.mk.injEq] at he
   obtain ⟨⟨rfl, _⟩, rfl, rfl⟩ := he
   have hlen : (xs.toArray ++ news.toArray).size = (n + m) * z.cells.size := by rw [Array.size_append, List.size_toArray, List.size_toArray, hown.1, hl, hzs, Nat.add_mul]
   have hm : (grownCap w (n + m) cap e - (n + m)) * z.cells.size = grownCap w (n + m) cap e * z.cells.size - (n + m) * z.cells.size := Nat.sub_mul _ _ _
   have key := cell_of_row _ w.heap.size j _ _ (0, 0) (heap_alloc_new w.drew (.cells (xs.toArray ++ news.toArray ++ Builtin.zeroCells z.cells (grownCap w (n + m) cap e - (n + m))) e))
   refine key.trans ?_
   rw [Array.getElem?_append_right (by omega), zero_get _ _ _ (by rw [hlen, hm]; omega), hlen, mod_shift hj1]
/-- a row of one's own, its spare room noughts -/
structure OwZ {α : Type} (enc : α → List Value) (zc : Array Value) (e : TypeId) (sz : Nat) (w : World) (base : Nat) (v : Value) (n : Nat) (q : List α) : Prop where
 own : w.ownsRow base e sz v n (encL enc q)
 sp : SpZ w zc v
 ne : v ≠ .slice none 0 0
/-- its slice, its block -/
theorem OwZ.any {α : Type} {enc : α → List Value} {zc : Array Value} {e : TypeId} {sz : Nat} {w : World} {base : Nat} {v : Value} {n : Nat} {q : List α} (h : OwZ enc zc e sz w base v n q) (hsz : 0 < sz) (henc : ∀ x, (enc x).length = sz) :
  q.length = n ∧ ∃ g c, v = .slice (some ⟨g, 0, none⟩) n c ∧ n ≤ c ∧ c ≤ 9223372036854775807 ∧ base ≤ g ∧ Own w g e ∧ v.ownBlock = some g ∧ ∀ i (h : i < q.length) j, j < sz → w.cell? ⟨g, i * sz + j, none⟩ = (enc q[i])[j]? := by
 obtain ⟨h1, a, c, rfl, h2, h3, h4⟩ := own_any hsz henc h.own
 refine ⟨h1, ?_⟩
 rcases h4 with ⟨h4, h5⟩ | ⟨g, rfl, h6, h7, h8, h9⟩
 ·rcases h.own.2 with ⟨he, h0⟩ | ⟨g, cap, cur, he, -⟩
  ·exact absurd he h.ne
  ·rw [he] at h5; cases h5
 ·exact ⟨g, c, rfl, h2, h3, h6, h7, h8, h9⟩
/-- what all cells of its block are -/
theorem OwZ.all {α : Type} {enc : α → List Value} {zc : Array Value} {e : TypeId} {sz : Nat} {w : World} {base : Nat} {v : Value} {n : Nat} {q : List α} (h : OwZ enc zc e sz w base v n q) (hsz : 0 < sz) (hzs : zc.size = sz) {R : Value → Prop} (henc : ∀ x, ∀ u ∈ enc x, R u) (hz : ∀ j, j < sz → R zc[j]!) {g : Nat} (hg : v.ownBlock = some g) :
  ∀ off u, w.cell? ⟨g, off, none⟩ = some u → R u := by
 intro off u hu
 rcases h.own.2 with ⟨he, -⟩ | ⟨g', cap, cur, he, hb, hcur, hc, hm, hs, ht⟩
 ·exact absurd he h.ne
 ·subst he
  cases hg
  have hcell := cell_of_row w g' off _ _ (0, 0) hcur
  by_cases h1 : off < n * sz
  ·have : u ∈ encL enc q := by
    rw [← ht]
    refine List.mem_iff_getElem?.2 ⟨off, ?_⟩
    rw [List.getElem?_take, if_pos h1, Array.getElem?_toList, ← hcell, hu]
   obtain ⟨x, -, hx⟩ := List.mem_flatMap.1 this
   exact henc x u hx
  ·by_cases h2 : off < cap * sz
   ·have := h.sp g' n cap rfl off (by rw [hzs]; omega) (by rw [hzs]; exact h2)
    rw [hu] at this
    cases this
    rw [hzs]
    exact hz _ (Nat.mod_lt _ hsz)
   ·rw [hcell, Array.getElem?_eq_none (by omega)] at hu
    cases hu
theorem encL_one {α : Type} {enc : α → List Value} (h : ∀ x, ∀ u ∈ enc x, u.oneCell' = true) (l : List α) : ∀ u ∈ encL enc l, u.oneCell' = true := fun u hu => by
 obtain ⟨x, -, hx⟩ := List.mem_flatMap.1 hu
 exact h x u hx
/-- several appended -/
theorem appz {α : Type} {enc : α → List Value} {T e : TypeId} {z : Value} {sz by' : Nat} (hT : Try.prog.underlying T = some (.slice e)) (hI : (Try.prog.info? e).map (fun i => (i.zero, i.size, i.bytes)) = some (some z, sz, by')) (hzs : z.cells.size = sz) (hsz : 0 < sz) (hby : by' ≤ 128)
  (henc : ∀ x, (enc x).length = sz) (hone : ∀ x, ∀ u ∈ enc x, u.oneCell' = true) {w : World} {base n m : Nat} {v : Value} {l : List α} (h : OwZ enc z.cells e sz w base v n l) (ts : List α) (hm : ts.length = m) {src : Value} (hsrc : (src = .slice none 0 0 ∧ m = 0) ∨ ∃ a c, src = .slice (some a) m c ∧ ∀ j u, (encL enc ts)[j]? = some u → w.cell? (a.add j) = some u) (h63 : n + m ≤ 1073741825) (hbase : base ≤ w.heap.size) (ty : TypeId) :
  ∃ v' w', (Builtin.append_ #[T, T] ty #[v, src]).run Try.prog w = .ok v' w' ∧ OwZ enc z.cells e sz w' base v' (n + m) (l ++ ts) ∧ w.grownBy w' v.ownBlock ∧ (v'.ownBlock = v.ownBlock ∨ v'.ownBlock = some w.heap.size) := by
 obtain ⟨i0, hi, hz0, hz1, hz2⟩ := info_parts hI
 rcases hsrc with ⟨rfl, rfl⟩ | ⟨a, c, rfl, hc⟩
 ·obtain rfl : ts = [] := List.eq_nil_of_length_eq_zero hm
  refine ⟨v, w, run_append_owned_none w base T ty e i0 sz hT hi v n _ h.own, ?_, ⟨rfl, rfl, rfl, Nat.le_refl _, fun _ _ _ => rfl⟩, .inl rfl⟩
  rw [List.append_nil, Nat.add_zero]
  exact h
 ·have hmul : (n + m) * by' ≤ 1073741825 * 128 := Nat.mul_le_mul h63 hby
  have hl : (encL enc ts).length = m * sz := by rw [encL_length henc, hm]
  obtain ⟨v', w', h1, h2, h3, -, h5⟩ := run_append_own_at (P := Try.prog) w base T ty e i0 z sz by' hT hi hz0 hz1 hz2 hzs hsz v n (encL enc l) h.own a m c (encL enc ts) hl hc (encL_one hone ts) (by unfold maxLen; omega) (by omega) hbase
  obtain ⟨h6, h7⟩ := spzm hT hi hz0 hz1 hz2 hzs h.own h.sp h.ne hl hc (encL_one hone ts) (by unfold maxLen; omega) (by omega) h1
  refine ⟨v', w', h1, ⟨?_, h6, h7⟩, h3, h5⟩
  rw [encL_append]
  exact h2
/-- a row as it is written out -/
theorem owz_lit {α : Type} {enc : α → List Value} {zc : Array Value} {e : TypeId} {sz : Nat} (henc : ∀ x, (enc x).length = sz) (w : World) (l : List α) (n : Nat) (hn : l.length = n) (hn2 : n ≤ 1073741824) (cs : Array Value) (hcs : cs.toList = encL enc l) :
  OwZ enc zc e sz (w.alloc (.cells cs e)) w.heap.size (.slice (some ⟨w.heap.size, 0, none⟩) n n) n l := by
 have hlen := encL_length henc l
 refine ⟨?_, fun g n' cap he j h1 h2 => ?_, fun h => by cases h⟩
 ·rw [← hcs]
  exact World.ownsRow_lit w cs n (Nat.le_refl _) (by unfold maxLen; omega) (by rw [← Array.length_toList, hcs, hlen, hn])
 ·simp only [Value.slice.injEq] at he
  obtain ⟨-, rfl, rfl⟩ := he
  omega
theorem OwZ.below {α : Type} {enc : α → List Value} {zc : Array Value} {e : TypeId} {sz : Nat} {w w' : World} {base : Nat} {v : Value} {n : Nat} {q : List α} (h : OwZ enc zc e sz w base v n q) (k : Below w.heap.size w w') : OwZ enc zc e sz w' base v n q :=
 ⟨own_below h.own k, h.sp.below k, h.ne⟩
/-- a number stays where a block without whole numbers changes -/
theorem zm_grown {w w' : World} {s : Bool} {a : Option Addr} {l c : Nat} {x : Int} {g : Nat} (h : Zm w s a l c x) (hg : w.grownBy w' (some g)) (hno : ∀ off u, w.cell? ⟨g, off, none⟩ = some u → ∀ k i, u ≠ .int k i) : Zm w' s a l c x := by
 obtain ⟨n, ⟨xs, ⟨h1, h2, h3, h4, h5⟩, hv⟩, hs⟩ := h
 refine ⟨n, ⟨xs, ⟨h1, h2, h3, h4, h5.imp id ?_⟩, hv⟩, hs⟩
 rintro ⟨a0, ha, h6⟩
 refine ⟨a0, ha, ?_⟩
 rcases Nat.eq_zero_or_pos l with h0 | h0
 ·exact .inl h0
 ·rcases h6 with h6 | ⟨b, off, rfl, hb, hc⟩
  ·exact .inl h6
  ·refine .inr ⟨b, off, rfl, Nat.lt_of_lt_of_le hb hg.size, fun i hi => ?_⟩
   have hne : b ≠ g := fun e => by
    subst e
    exact hno _ _ (hc 0 h0) _ _ rfl
   exact (World.cell?_of_block (a := ⟨b, off + i, none⟩) (hg.block b hb fun e => hne (Option.some.inj e))).trans (hc i hi)
/-- a set stays where a block of pointers changes -/
theorem ps_grown {w w' : World} {b : Nat} {D : PD} {g : Nat} {e : TypeId} (h : PS w b D) (hg : w.grownBy w' (some g)) (ho : Own w g e) (h1 : 63 ≠ e) (h2 : 78 ≠ e) (h3 : 77 ≠ e) (hp : ∀ off u, w.cell? ⟨g, off, none⟩ = some u → ∃ p, u = .pointer p) : PS w' b D := by
 obtain ⟨v, hb, hc, hr⟩ := h.blk
 have hO : ∀ t, t ≠ e → ∀ g', some g = some g' → ∃ e, Own w g' e ∧ t ≠ e := fun t ht g' eg => by cases eg; exact ⟨e, ho, ht⟩
 have hcell : ∀ b' o u, b' < w.heap.size → w.cell? ⟨b', o, none⟩ = some u → (∀ p, u ≠ .pointer p) → w'.cell? ⟨b', o, none⟩ = some u := fun b' o u hb' hu hn => by
  have hne : b' ≠ g := fun e => by
   subst e
   obtain ⟨p, rfl⟩ := hp _ _ hu
   exact hn p rfl
  exact (World.cell?_of_block (a := ⟨b', o, none⟩) (hg.block b' hb' fun e => hne (Option.some.inj e))).trans hu
 refine ⟨h.wf, v, hb.grown hg (hO _ h1), ⟨hc.len, hc.cap, hc.at'.imp id ?_⟩, ⟨hr.len, hr.cap, hr.at'.imp id ?_⟩⟩
 ·rintro ⟨b', off, e', hb', q, hq, hcl⟩
  exact ⟨b', off, e', Nat.lt_of_lt_of_le hb' hg.size, q, ⟨hq.len, fun i a1 a2 => (hq.nu i a1 a2).grown hg (hO _ h2)⟩, fun i hi => ⟨hcell _ _ _ hb' (hcl i hi).1 (fun p h => by cases h), hcell _ _ _ hb' (hcl i hi).2 (fun p h => by cases h)⟩⟩
 ·rintro ⟨b', off, e', hb', hcl⟩
  refine ⟨b', off, e', Nat.lt_of_lt_of_le hb' hg.size, fun i hi => ?_⟩
  obtain ⟨g1, q1, q2⟩ := hcl i hi
  exact ⟨g1, hcell _ _ _ hb' q1 (fun p h => by cases h), q2.grown hg (hO _ h3)⟩
end Pd
end Go.Proofs.Ytojciccmjpabmaa

namespace Go.Proofs.Ytojciccmjpabmaa
open Go.RowKit
namespace Pd

set_option maxRecDepth 100000 in
set_option maxHeartbeats 6400000 in
theorem agree_n {w : World} {bA bB : Nat} {A B : PD} (hA : PS w bA A) (hB : PS w bB B) (hfA : A.cs.length ≤ 536869999) (hfB : B.cs.length ≤ 536869999) :
  Calls Try.prog 48 #[.pointer (some ⟨bA, 0, none⟩), .pointer (some ⟨bB, 0, none⟩)] w fun e w' => ∃ b, e = .returned (.bool b) ∧ Below w.heap.size w w' ∧ (b = true ↔ ∀ x, mem A x = mem B x) := by
 have hwA := hide hA.wf
 have hwB := hide hB.wf
 have hp1 := hwA.out.p1
 have hp2 := hwA.out.p2
 have hq1 := hwB.out.p1
 have hq2 := hwB.out.p2
 obtain ⟨vA, sA, cA, -⟩ := hA.blk
 obtain ⟨vB, sB, cB, -⟩ := hB.blk
 have e0 := sA.c0
 have e1 := sA.c1
 have e2 := sB.c0
 have e3 := sB.c1
 have hlA := sA.lt
 have hlB := sB.lt
 have hlcA := hide cA.len
 have hlcB := hide cB.len
 have hst := fun u k => hide (stretches_n (w := u) (cA.below k) (cB.below k) hwA.out.up hwB.out.up (by rw [← hlcA.out]; omega) (by rw [← hlcB.out]; omega))
 replace hA := hide hA
 replace hB := hide hB
 replace cA := hide cA
 replace cB := hide cB
 replace sA := hide sA
 replace sB := hide sB
 go_enter Try.func48, Try.ntmps48
 go_upto_region 1 with (fail)
 refine wp_region_held_drew (S := (fun w' => w'.cell? ⟨bA, 0, none⟩ = some (.int .i64 A.p) ∧ w'.cell? ⟨bB, 0, none⟩ = some (.int .i64 B.p))) (by kernel_rfl) (⟨(Below.cell (grow_drew (Below.refl _ _)) hlA).trans e0, (Below.cell (grow_drew (Below.refl _ _)) hlB).trans e2⟩) (fun hHeld => ?_)
 show wpAnyH _ _ _ _ _ 10 _ _ _
 have kW := grow_drew (Below.refl w.heap.size w)
 generalize w.drew = wQ at *
 repeat' first
  | with_reducible exact AllReadyH.nil
  | (
   refine wpAnyH_take (i := 0) (oi := ⟨some 11, _, _, _, _, _⟩) (v := ?_) rfl (by decide +kernel) (by decide +kernel) (by decide +kernel) (fun _ _ _ h => h) (Or.inl ⟨by rfl, ?_⟩) (by assumption) ?_
   rotate_left
   ·intro wq hSw; (try dsimp only at hSw); go_simp; (try with_reducible rfl)
   (try simp only [Act.put, List.setIfInBounds_toArray, List.set_cons_zero, List.set_cons_succ]))
  | (
   refine wpAnyH_take (i := 1) (oi := ⟨some 12, _, _, _, _, _⟩) (v := ?_) rfl (by decide +kernel) (by decide +kernel) (by decide +kernel) (fun _ _ _ h => h) (Or.inl ⟨by rfl, ?_⟩) (by assumption) ?_
   rotate_left
   ·intro wq hSw; (try dsimp only at hSw); go_simp; (try with_reducible rfl)
   (try simp only [Act.put, List.setIfInBounds_toArray, List.set_cons_zero, List.set_cons_succ]))
  | (
   refine wpAnyH_take (i := 2) (oi := ⟨some 13, _, _, _, _, _⟩) (v := ?_) rfl (by decide +kernel) (by decide +kernel) (by decide +kernel) (fun _ _ _ h => h) (Or.inl ⟨by rfl, ?_⟩) (by assumption) ?_
   rotate_left
   ·intro wq hSw; (try dsimp only at hSw); go_simp; (try with_reducible rfl)
   (try simp only [Act.put, List.setIfInBounds_toArray, List.set_cons_zero, List.set_cons_succ]))
  | (
   refine wpAnyH_take (i := 3) (oi := ⟨some 14, _, _, _, _, _⟩) (v := ?_) rfl (by decide +kernel) (by decide +kernel) (by decide +kernel) (fun _ _ _ h => h) (Or.inl ⟨by rfl, ?_⟩) (by assumption) ?_
   rotate_left
   ·intro wq hSw; (try dsimp only at hSw); go_simp; (try with_reducible rfl)
   (try simp only [Act.put, List.setIfInBounds_toArray, List.set_cons_zero, List.set_cons_succ]))
  | (
   refine wpAnyH_take (i := 4) (oi := ⟨some 15, _, _, _, _, _⟩) (v := ?_) rfl (by decide +kernel) (by decide +kernel) (by decide +kernel) (fun _ _ _ h => h) (Or.inl ⟨by rfl, ?_⟩) (by assumption) ?_
   rotate_left
   ·intro wq hSw; (try dsimp only at hSw); go_simp; (try with_reducible rfl)
   (try simp only [Act.put, List.setIfInBounds_toArray, List.set_cons_zero, List.set_cons_succ]))
  | (
   refine wpAnyH_take (i := 5) (oi := ⟨some 16, _, _, _, _, _⟩) (v := ?_) rfl (by decide +kernel) (by decide +kernel) (by decide +kernel) (fun _ _ _ h => h) (Or.inl ⟨by rfl, ?_⟩) (by assumption) ?_
   rotate_left
   ·intro wq hSw; (try dsimp only at hSw); go_simp; (try with_reducible rfl)
   (try simp only [Act.put, List.setIfInBounds_toArray, List.set_cons_zero, List.set_cons_succ]))
  | (
   refine wpAnyH_take (i := 6) (oi := ⟨some 17, _, _, _, _, _⟩) (v := ?_) rfl (by decide +kernel) (by decide +kernel) (by decide +kernel) (fun _ _ _ h => h) (Or.inl ⟨by rfl, ?_⟩) (by assumption) ?_
   rotate_left
   ·intro wq hSw; (try dsimp only at hSw); go_simp; (try with_reducible rfl)
   (try simp only [Act.put, List.setIfInBounds_toArray, List.set_cons_zero, List.set_cons_succ]))
  | (
   refine wpAnyH_take (i := 7) (oi := ⟨some 18, _, _, _, _, _⟩) (v := ?_) rfl (by decide +kernel) (by decide +kernel) (by decide +kernel) (fun _ _ _ h => h) (Or.inl ⟨by rfl, ?_⟩) (by assumption) ?_
   rotate_left
   ·intro wq hSw; (try dsimp only at hSw); go_simp; (try with_reducible rfl)
   (try simp only [Act.put, List.setIfInBounds_toArray, List.set_cons_zero, List.set_cons_succ]))
  | (
   refine wpAnyH_take (i := 8) (oi := ⟨some 19, _, _, _, _, _⟩) (v := ?_) rfl (by decide +kernel) (by decide +kernel) (by decide +kernel) (fun _ _ _ h => h) (Or.inl ⟨by rfl, ?_⟩) (by assumption) ?_
   rotate_left
   ·intro wq hSw; (try dsimp only at hSw); go_simp; (try with_reducible rfl)
   (try simp only [Act.put, List.setIfInBounds_toArray, List.set_cons_zero, List.set_cons_succ]))
  | (refine wpAnyH_ready (rs := [9]) ?_ ?_ ?_; decide +kernel; simp)
  | (
   first
    | (
     refine AllReadyH.cons (i := 9) (o := ⟨some 5, _, _, _, _, _⟩) rfl (fun K hK => ?_) ?_
     go_simp)
   refine hK.out _ _ ?_ ?_
   ·first | with_reducible exact trivial | ((try dsimp only); exact ⟨(Below.cell kW hlA).trans e0, (Below.cell kW hlB).trans e2⟩)
   clear hK K hHeld; intro hHeld
   (try simp only [Act.put, List.setIfInBounds_toArray, List.set_cons_zero, List.set_cons_succ]))
 refine wpAnyH_done ?_ ?_ _
 ·decide +kernel
 have k1 := hide kW
 obtain ⟨E, hE⟩ : ∃ E, E = A.p + B.p := ⟨_, rfl⟩
 rw [show IntKind.i64.wrap ((A.p : Int) + (B.p : Int)) = (E : Int) by rw [IntKind.wrap_i64]; omega]
 have hEb : E ≤ 8192 := by omega
 replace hE := hide hE
 clear kW hHeld
 generalize wQ = w1 at *
 go_upto_region 2 with (fail)
 refine wp_region_held_drew (S := (fun w' => w'.cell? ⟨bA, 1, none⟩ = some (.slice vA.ca vA.cn vA.cc) ∧ w'.cell? ⟨bB, 1, none⟩ = some (.slice vB.ca vB.cn vB.cc))) (by kernel_rfl) (⟨(Below.cell (grow_drew k1.out) hlA).trans e1, (Below.cell (grow_drew k1.out) hlB).trans e3⟩) (fun hHeld => ?_)
 show wpAnyH _ _ _ _ _ 10 _ _ _
 have kW := grow_drew k1.out
 generalize hwq : w1.drew = w2 at *
 repeat' first
  | with_reducible exact AllReadyH.nil
  | (
   refine wpAnyH_take (i := 0) (oi := ⟨some 20, _, _, _, _, _⟩) (v := ?_) rfl (by decide +kernel) (by decide +kernel) (by decide +kernel) (fun _ _ _ h => h) (Or.inl ⟨by rfl, ?_⟩) (by assumption) ?_
   rotate_left
   ·intro wq hSw; (try dsimp only at hSw); go_simp; (try with_reducible rfl)
   (try simp only [Act.put, List.setIfInBounds_toArray, List.set_cons_zero, List.set_cons_succ]))
  | (
   refine wpAnyH_take (i := 1) (oi := ⟨some 21, _, _, _, _, _⟩) (v := ?_) rfl (by decide +kernel) (by decide +kernel) (by decide +kernel) (fun _ _ _ h => h) (Or.inl ⟨by rfl, ?_⟩) (by assumption) ?_
   rotate_left
   ·intro wq hSw; (try dsimp only at hSw); go_simp; (try with_reducible rfl)
   (try simp only [Act.put, List.setIfInBounds_toArray, List.set_cons_zero, List.set_cons_succ]))
  | (
   refine wpAnyH_take (i := 2) (oi := ⟨some 22, _, _, _, _, _⟩) (v := ?_) rfl (by decide +kernel) (by decide +kernel) (by decide +kernel) (fun _ _ _ h => h) (Or.inl ⟨by rfl, ?_⟩) (by assumption) ?_
   rotate_left
   ·intro wq hSw; (try dsimp only at hSw); go_simp; (try with_reducible rfl)
   (try simp only [Act.put, List.setIfInBounds_toArray, List.set_cons_zero, List.set_cons_succ]))
  | (
   refine wpAnyH_take (i := 3) (oi := ⟨some 23, _, _, _, _, _⟩) (v := ?_) rfl (by decide +kernel) (by decide +kernel) (by decide +kernel) (fun _ _ _ h => h) (Or.inl ⟨by rfl, ?_⟩) (by assumption) ?_
   rotate_left
   ·intro wq hSw; (try dsimp only at hSw); go_simp; (try with_reducible rfl)
   (try simp only [Act.put, List.setIfInBounds_toArray, List.set_cons_zero, List.set_cons_succ]))
  | (
   refine wpAnyH_take (i := 4) (oi := ⟨some 24, _, _, _, _, _⟩) (v := ?_) rfl (by decide +kernel) (by decide +kernel) (by decide +kernel) (fun _ _ _ h => h) (Or.inl ⟨by rfl, ?_⟩) (by assumption) ?_
   rotate_left
   ·intro wq hSw; (try dsimp only at hSw); go_simp; (try with_reducible rfl)
   (try simp only [Act.put, List.setIfInBounds_toArray, List.set_cons_zero, List.set_cons_succ]))
  | (
   refine wpAnyH_take (i := 5) (oi := ⟨some 25, _, _, _, _, _⟩) (v := ?_) rfl (by decide +kernel) (by decide +kernel) (by decide +kernel) (fun _ _ _ h => h) (Or.inl ⟨by rfl, ?_⟩) (by assumption) ?_
   rotate_left
   ·intro wq hSw; (try dsimp only at hSw); go_simp; (try with_reducible rfl)
   (try simp only [Act.put, List.setIfInBounds_toArray, List.set_cons_zero, List.set_cons_succ]))
  | (
   refine wpAnyH_take (i := 6) (oi := ⟨some 26, _, _, _, _, _⟩) (v := ?_) rfl (by decide +kernel) (by decide +kernel) (by decide +kernel) (fun _ _ _ h => h) (Or.inl ⟨by rfl, ?_⟩) (by assumption) ?_
   rotate_left
   ·intro wq hSw; (try dsimp only at hSw); go_simp; (try with_reducible rfl)
   (try simp only [Act.put, List.setIfInBounds_toArray, List.set_cons_zero, List.set_cons_succ]))
  | (
   refine wpAnyH_take (i := 7) (oi := ⟨some 27, _, _, _, _, _⟩) (v := ?_) rfl (by decide +kernel) (by decide +kernel) (by decide +kernel) (fun _ _ _ h => h) (Or.inl ⟨by rfl, ?_⟩) (by assumption) ?_
   rotate_left
   ·intro wq hSw; (try dsimp only at hSw); go_simp; (try with_reducible rfl)
   (try simp only [Act.put, List.setIfInBounds_toArray, List.set_cons_zero, List.set_cons_succ]))
  | (refine wpAnyH_ready (rs := [8]) ?_ ?_ ?_; decide +kernel; simp)
  | (refine wpAnyH_ready (rs := [9]) ?_ ?_ ?_; decide +kernel; simp)
  | (
   first
    | (
     refine AllReadyH.cons (i := 8) (o := ⟨some 28, _, _, _, _, _⟩) rfl (fun K hK => ?_) ?_
     go_simp
     go_at_call 70; refine Calls.mono (hst _ kW).out ?_; rintro e wC ⟨aS, nS, cS, L, rfl, hels, hstr, hnS, kC, hfr⟩; have hfr2 := fun g off e => Nat.le_trans kW.size (hfr g off e)
     have kW := grow_step kC kW
     try go_wp2_with fail)
    | (
     refine AllReadyH.cons (i := 9) (o := ⟨some 6, _, _, _, _, _⟩) rfl (fun K hK => ?_) ?_
     go_simp)
   refine hK.out _ _ ?_ ?_
   ·first | with_reducible exact trivial | ((try dsimp only); exact ⟨(Below.cell kW hlA).trans e1, (Below.cell kW hlB).trans e3⟩)
   clear hK K hHeld; intro hHeld
   (try simp only [Act.put, List.setIfInBounds_toArray, List.set_cons_zero, List.set_cons_succ]))
 refine wpAnyH_done ?_ ?_ _
 ·decide +kernel
 have kS := hide kW
 have hAS := hide (hA.out.below kW)
 have hBS := hide (hB.out.below kW)
 clear kW kC hHeld hst e0 e1 e2 e3 hlA hlB cA cB sA sB hfr
 generalize wC = w3 at *
 have hst := hide hstr
 have hnL : Hid (L.length = nS) := hide hels.len
 obtain ⟨m, rfl⟩ : ∃ m, nS = m + 1 := ⟨nS - 1, by have := hstr.ne; have := hels.len; omega⟩
 have hmb : m ≤ 1073741000 := by have := hlcA.out; have := hlcB.out; omega
 obtain ⟨k0, hk0⟩ : ∃ k0, min 1 m = k0 := ⟨_, rfl⟩
 obtain ⟨g, z0, rfl, hgl, d0, d1, -, -, hz0⟩ := hels.get (show k0 < m + 1 by omega)
 have hgw := hide (hfr2 g 0 rfl)
 clear hstr hfr2 hnS
 obtain ⟨g', zz, hge, -, d2, d3, -, -, -⟩ := hels.get (show 0 < m + 1 by omega)
 cases hge
 rw [Nat.zero_mul] at d2 d3
 rw [Nat.zero_add] at d3
 have hfz : ∀ u : World, Below w3.heap.size w3 u → ∀ i : Nat, u.frozen? ⟨g, i, none⟩ = false := fun u k i => by
  obtain ⟨b, e, ho, -⟩ := hels.at'
  cases e
  obtain ⟨cur, h⟩ := ho.below k
  exact frozen_of_row u g i _ _ h
 replace hz0 := hide hz0
 replace hels := hide hels
 have hmin : min 1 (m : Int) = (k0 : Int) := by omega
 have hklt : (k0 : Int) < (m : Int) + 1 := by omega
 replace hk0 := hide hk0
 go_upto_region 4 with (fail)
 refine wp_region_held_drew (S := (fun _ => True)) (by kernel_rfl) (True.intro) (fun hHeld => ?_)
 show wpAnyH _ _ _ _ _ 13 _ _ _
 have kX := grow_drew (Below.refl w3.heap.size w3)
 generalize w3.drew = wX at *
 repeat' first
  | with_reducible exact AllReadyH.nil
  | (
   refine wpAnyH_take (i := 0) (oi := ⟨some 32, _, _, _, _, _⟩) (v := ?_) rfl (by decide +kernel) (by decide +kernel) (by decide +kernel) (fun _ _ _ h => h) (Or.inl ⟨by rfl, ?_⟩) (by assumption) ?_
   rotate_left
   ·intro wq hSw; (try dsimp only at hSw); go_simp; (try with_reducible rfl)
   (try simp only [Act.put, List.setIfInBounds_toArray, List.set_cons_zero, List.set_cons_succ]))
  | (
   refine wpAnyH_take (i := 1) (oi := ⟨some 33, _, _, _, _, _⟩) (v := ?_) rfl (by decide +kernel) (by decide +kernel) (by decide +kernel) (fun _ _ _ h => h) (Or.inl ⟨by rfl, ?_⟩) (by assumption) ?_
   rotate_left
   ·intro wq hSw; (try dsimp only at hSw); go_simp; (try with_reducible rfl)
   (try simp only [Act.put, List.setIfInBounds_toArray, List.set_cons_zero, List.set_cons_succ]))
  | (
   refine wpAnyH_take (i := 2) (oi := ⟨some 34, _, _, _, _, _⟩) (v := ?_) rfl (by decide +kernel) (by decide +kernel) (by decide +kernel) (fun _ _ _ h => h) (Or.inl ⟨by rfl, ?_⟩) (by assumption) ?_
   rotate_left
   ·intro wq hSw; (try dsimp only at hSw); go_simp; (try with_reducible rfl)
   (try simp only [Act.put, List.setIfInBounds_toArray, List.set_cons_zero, List.set_cons_succ]))
  | (
   refine wpAnyH_take (i := 3) (oi := ⟨some 35, _, _, _, _, _⟩) (v := ?_) rfl (by decide +kernel) (by decide +kernel) (by decide +kernel) (fun _ _ _ h => h) (Or.inl ⟨by rfl, ?_⟩) (by assumption) ?_
   rotate_left
   ·intro wq hSw; (try dsimp only at hSw); go_simp; (try with_reducible rfl)
   (try simp only [Act.put, List.setIfInBounds_toArray, List.set_cons_zero, List.set_cons_succ]))
  | (
   refine wpAnyH_take (i := 4) (oi := ⟨some 36, _, _, _, _, _⟩) (v := ?_) rfl (by decide +kernel) (by decide +kernel) (by decide +kernel) (fun _ _ _ h => h) (Or.inl ⟨by rfl, ?_⟩) (by assumption) ?_
   rotate_left
   ·intro wq hSw; (try dsimp only at hSw); go_simp; (try with_reducible rfl)
   (try simp only [Act.put, List.setIfInBounds_toArray, List.set_cons_zero, List.set_cons_succ]))
  | (
   refine wpAnyH_take (i := 5) (oi := ⟨some 37, _, _, _, _, _⟩) (v := ?_) rfl (by decide +kernel) (by decide +kernel) (by decide +kernel) (fun _ _ _ h => h) (Or.inl ⟨by rfl, ?_⟩) (by assumption) ?_
   rotate_left
   ·intro wq hSw; (try dsimp only at hSw); go_simp; (try with_reducible rfl)
   (try simp only [Act.put, List.setIfInBounds_toArray, List.set_cons_zero, List.set_cons_succ]))
  | (
   refine wpAnyH_take (i := 7) (oi := ⟨some 39, _, _, _, _, _⟩) (v := ?_) rfl (by decide +kernel) (by decide +kernel) (by decide +kernel) (fun _ _ _ h => h) (Or.inl ⟨by rfl, ?_⟩) (by assumption) ?_
   rotate_left
   ·intro wq hSw; (try dsimp only at hSw); go_simp; (try with_reducible rfl)
   (try simp only [Act.put, List.setIfInBounds_toArray, List.set_cons_zero, List.set_cons_succ]))
  | (
   refine wpAnyH_take (i := 10) (oi := ⟨some 42, _, _, _, _, _⟩) (v := ?_) rfl (by decide +kernel) (by decide +kernel) (by decide +kernel) (fun _ _ _ h => h) (Or.inl ⟨by rfl, ?_⟩) (by assumption) ?_
   rotate_left
   ·intro wq hSw; (try dsimp only at hSw); go_simp; (try with_reducible rfl)
   (try simp only [Act.put, List.setIfInBounds_toArray, List.set_cons_zero, List.set_cons_succ]))
  | (
   refine wpAnyH_take (i := 11) (oi := ⟨some 43, _, _, _, _, _⟩) (v := ?_) rfl (by decide +kernel) (by decide +kernel) (by decide +kernel) (fun _ _ _ h => h) (Or.inl ⟨by rfl, ?_⟩) (by assumption) ?_
   rotate_left
   ·intro wq hSw; (try dsimp only at hSw); go_simp; (try with_reducible rfl)
   (try simp only [Act.put, List.setIfInBounds_toArray, List.set_cons_zero, List.set_cons_succ]))
  | (refine wpAnyH_ready (rs := [6, 8]) ?_ ?_ ?_; decide +kernel; simp)
  | (refine wpAnyH_ready (rs := [8]) ?_ ?_ ?_; decide +kernel; simp)
  | (refine wpAnyH_ready (rs := [9]) ?_ ?_ ?_; decide +kernel; simp)
  | (refine wpAnyH_ready (rs := [12]) ?_ ?_ ?_; decide +kernel; simp)
  | (refine wpAnyH_ready (rs := [6]) ?_ ?_ ?_; decide +kernel; simp)
  | (
   first
    | (
     refine AllReadyH.cons (i := 6) (o := ⟨some 38, _, _, _, _, _⟩) rfl (fun K hK => ?_) ?_
     have c0 := (Below.cell (p := ⟨g, k0 * 4, none⟩) kX hgl).trans d0
     have c1 := (Below.cell (p := ⟨g, k0 * 4 + 1, none⟩) kX hgl).trans d1
     go_simp
     clear c0 c1)
    | (
     refine AllReadyH.cons (i := 8) (o := ⟨some 40, _, _, _, _, _⟩) rfl (fun K hK => ?_) ?_
     go_simp
     go_at_call 49; refine Calls.mono (Fresh.zof_n (B := 0) (E : Int) (by omega) (by omega) _ (Nat.zero_le _)) ?_; rintro e wO ⟨sO, aO, lO, cO, rfl, hzO, kO, hlO⟩
     have kX := grow_step kO kX
     try go_wp2_with fail)
    | (
     refine AllReadyH.cons (i := 9) (o := ⟨some 41, _, _, _, _, _⟩) rfl (fun K hK => ?_) ?_
     go_simp
     go_at_call 57; refine Calls.mono (Fresh.zsub_n (B := 0) (Fresh.zm_of (hz0.out.zm.below kX) (Nat.zero_le _)) (Fresh.zm_of hzO.zn.zm (Nat.zero_le _)) hz0.out.len (by omega)) ?_; rintro e wC ⟨sC, aC, lC, cC, rfl, hzC, kC, hlC⟩
     have kX := grow_step kC kX
     try go_wp2_with fail)
    | (
     refine AllReadyH.cons (i := 12) (o := ⟨none, _, _, _, _, _⟩) rfl (fun K hK => ?_) ?_
     have f0 := (Below.cell (p := ⟨g, 0, none⟩) kX hgl).trans d2
     have f1 := (Below.cell (p := ⟨g, 1, none⟩) kX hgl).trans d3
     have f2 := hfz _ kX 0
     have f3 := hfz _ kX 1
     go_simp
     clear f0 f1 f2 f3)
   refine hK.out _ _ ?_ ?_
   ·first | with_reducible exact trivial | ((try dsimp only); exact True.intro)
   clear hK K hHeld; intro hHeld
   (try simp only [Act.put, List.setIfInBounds_toArray, List.set_cons_zero, List.set_cons_succ]))
 all_goals
  refine wpAnyH_done ?_ ?_ _
  ·decide +kernel
  obtain ⟨F, hF⟩ : ∃ F : Nat → Int, F = fun k => if k = 0 then (se L k0).f - (E : Int) else (se L k).f := ⟨_, rfl⟩
  have hel : Hid (EL2 _ g (m + 1) L F) := hide (by rw [hF]; exact el_first (z := ⟨sC, aC, lC, cC⟩) (hels.out.below kX) (Nat.succ_le_succ (Nat.zero_le m)) hzC (by have := hz0.out.le; show lC ≤ _; omega))
  have k4 := hide (((grow_step kX kS.out).setCell (p := ⟨g, 0, none⟩) hgw.out (.bool sC)).setCell (p := ⟨g, 1, none⟩) hgw.out (.slice aC lC cC))
  have hag : Hid ((∀ k, k < m + 1 → ∀ t : Nat, t < cnt F m E k → rmem A.p (rw' A (se L k).i) (F k + t) = rmem B.p (rw' B (se L k).j) (F k + t)) ↔ ∀ x, mem A x = mem B x) := hide (by
   rw [hF, hE.out]
   refine agree_all hwA.out hwB.out hst.out hnL.out fun h1 => ?_
   have := hk0.out
   rw [show k0 = 1 by omega]
   omega)
  have hpos : ∀ k, k < m → 0 ≤ F (k + 1) - F k := fun k hk => by
   rw [hF]
   dsimp only
   rw [if_neg (by omega)]
   by_cases e : k = 0
   ·subst e
    have := hk0.out
    rw [if_pos rfl, show k0 = 1 by omega, Nat.zero_add]
    omega
   ·rw [if_neg e]
    have := hst.out.up k (by omega) (by rw [hnL.out]; omega)
    omega
  replace hF := hide hF
  replace hpos := hide hpos
  clear kX hHeld d0 d1 d2 d3 hfz hzC kC kO hzO hlC hlO hz0 hels hgw kS hAS hBS kW hmin hklt hgl
  generalize (wC.setCell ⟨g, 0, none⟩ (.bool sC)).setCell ⟨g, 1, none⟩ (.slice aC lC cC) = w4 at *
  go_wp2_with fail
  go_loopw [46] (fun vi wr => ∃ k : Nat, k ≤ m + 1 ∧ vi = .int .i64 k ∧ (∀ j, j < k → ∀ t : Nat, t < cnt F m E j → rmem A.p (rw' A (se L j).i) (F j + t) = rmem B.p (rw' B (se L j).j) (F j + t)) ∧ Below w4.heap.size w4 wr) (fun vi _ => m + 1 - (intOf vi).toNat)
  case atStart => exact ⟨0, Nat.zero_le _, rfl, fun j h => by omega, Below.refl _ _⟩
  case round =>
   obtain ⟨k, hk, rfl, hall, kr⟩ := hrel
   replace hall := hide hall
   by_cases hkn : k < m + 1
   ·obtain ⟨z, c0, c1, c2, c3, hz, hzl⟩ := (hel.out.below kr).2 k hkn
    obtain ⟨hiA, hiB⟩ := hst.out.idx k (by rw [hnL.out]; exact hkn)
    replace hiA : (se L k).i < A.rs.length := by have := hwA.out.len; omega
    replace hiB : (se L k).j < B.rs.length := by have := hwB.out.len; omega
    have hknI : (k : Int) < (m : Int) + 1 := by omega
    have ba := below_alloc wr (.cells #[.bool z.s, .slice z.a z.l z.c, .int .i64 (se L k).i, .int .i64 (se L k).j] 102)
    have ye : EB (wr.alloc (.cells #[.bool z.s, .slice z.a z.l z.c, .int .i64 (se L k).i, .int .i64 (se L k).j] 102)) wr.heap.size ⟨z, (se L k).i, (se L k).j⟩ := heap_alloc_new wr _
    have kra := hide (grow_step ba kr)
    have hz1 := hide (hz.below ba)
    have hel1 := hide (hel.out.below kra.out)
    have hgl := hel1.out.1
    have hkh := hide hall
    clear hz kr
    by_cases hkm : k < m
    ·obtain ⟨kq, hkq⟩ : ∃ kq, kq = k + 1 := ⟨_, rfl⟩
     obtain ⟨z2, y0, y1, -, -, hy, hyl⟩ := hel1.out.2 kq (by omega)
     have hwk : IntKind.i64.wrap ((k : Int) + 1) = (kq : Int) := by rw [IntKind.wrap_i64]; omega
     have hlt : decide (k < m) = true := by rw [decide_eq_true_eq]; exact hkm
     have hltI : (kq : Int) < (m : Int) + 1 := by omega
     have hFq : F kq = F (k + 1) := by rw [hkq]
     rw [hFq] at hy
     replace hkq := hide hkq
     clear hFq
     replace hy := hide hy
     have hpk : Hid (0 ≤ F (k + 1) - F k) := hide (hpos.out k hkm)
     obtain ⟨cN, hcN⟩ : ∃ cN, cnt F m E k = cN := ⟨_, rfl⟩
     have hcl : cN ≤ E := by rw [← hcN]; exact cnt_le _ _ _ _
     have hcnt : Hid ((if F (k + 1) - F k < (E : Int) then F (k + 1) - F k else (E : Int)) = (cN : Int)) := hide (by
      have := hpk.out
      rw [← hcN]
      unfold cnt
      rw [if_pos hkm]
      split <;> omega)
     replace hcN := hide hcN
     go_upto_region 10 with (fail)
     clear c0 c1 c2 c3
     generalize wr.alloc (.cells #[.bool z.s, .slice z.a z.l z.c, .int .i64 (se L k).i, .int .i64 (se L k).j] 102) = wa at *
     generalize wr.heap.size = bt at *
     replace ye := hide ye
     clear ba
     refine wp_region_held_drew (S := (fun w' => w'.cell? ⟨g, kq * 4, none⟩ = some (.bool z2.s) ∧ w'.cell? ⟨g, kq * 4 + 1, none⟩ = some (.slice z2.a z2.l z2.c) ∧ w'.cell? ⟨bt, 0, none⟩ = some (.bool z.s) ∧ w'.cell? ⟨bt, 1, none⟩ = some (.slice z.a z.l z.c))) (by kernel_rfl) (⟨(Below.cell (grow_drew (Below.refl _ _)) hgl).trans y0, (Below.cell (grow_drew (Below.refl _ _)) hgl).trans y1, (ye.out.below (grow_drew (Below.refl _ _))).c0, (ye.out.below (grow_drew (Below.refl _ _))).c1⟩) (fun hHeld => ?_)
     show wpAnyH _ _ _ _ _ 12 _ _ _
     have kW := grow_drew (Below.refl wa.heap.size wa)
     generalize wa.drew = wQ at *
     repeat' first
      | with_reducible exact AllReadyH.nil
      | (
       refine wpAnyH_take (i := 0) (oi := ⟨some 55, _, _, _, _, _⟩) (v := ?_) rfl (by decide +kernel) (by decide +kernel) (by decide +kernel) (fun _ _ _ h => h) (Or.inl ⟨by rfl, ?_⟩) (by assumption) ?_
       rotate_left
       ·intro wq hSw; (try dsimp only at hSw); go_simp; (try with_reducible rfl)
       (try simp only [Act.put, List.setIfInBounds_toArray, List.set_cons_zero, List.set_cons_succ]))
      | (
       refine wpAnyH_take (i := 1) (oi := ⟨some 56, _, _, _, _, _⟩) (v := ?_) rfl (by decide +kernel) (by decide +kernel) (by decide +kernel) (fun _ _ _ h => h) (Or.inl ⟨by rfl, ?_⟩) (by assumption) ?_
       rotate_left
       ·intro wq hSw; (try dsimp only at hSw); go_simp; (try with_reducible rfl)
       (try simp only [Act.put, List.setIfInBounds_toArray, List.set_cons_zero, List.set_cons_succ]))
      | (
       refine wpAnyH_take (i := 2) (oi := ⟨some 57, _, _, _, _, _⟩) (v := ?_) rfl (by decide +kernel) (by decide +kernel) (by decide +kernel) (fun _ _ _ h => h) (Or.inl ⟨by rfl, ?_⟩) (by assumption) ?_
       rotate_left
       ·intro wq hSw; (try dsimp only at hSw); go_simp; (try with_reducible rfl)
       (try simp only [Act.put, List.setIfInBounds_toArray, List.set_cons_zero, List.set_cons_succ]))
      | (
       refine wpAnyH_take (i := 3) (oi := ⟨some 58, _, _, _, _, _⟩) (v := ?_) rfl (by decide +kernel) (by decide +kernel) (by decide +kernel) (fun _ _ _ h => h) (Or.inl ⟨by rfl, ?_⟩) (by assumption) ?_
       rotate_left
       ·intro wq hSw; (try dsimp only at hSw); go_simp; (try with_reducible rfl)
       (try simp only [Act.put, List.setIfInBounds_toArray, List.set_cons_zero, List.set_cons_succ]))
      | (
       refine wpAnyH_take (i := 4) (oi := ⟨some 59, _, _, _, _, _⟩) (v := ?_) rfl (by decide +kernel) (by decide +kernel) (by decide +kernel) (fun _ _ _ h => h) (Or.inl ⟨by rfl, ?_⟩) (by assumption) ?_
       rotate_left
       ·intro wq hSw; (try dsimp only at hSw); go_simp; (try with_reducible rfl)
       (try simp only [Act.put, List.setIfInBounds_toArray, List.set_cons_zero, List.set_cons_succ]))
      | (
       refine wpAnyH_take (i := 5) (oi := ⟨some 60, _, _, _, _, _⟩) (v := ?_) rfl (by decide +kernel) (by decide +kernel) (by decide +kernel) (fun _ _ _ h => h) (Or.inl ⟨by rfl, ?_⟩) (by assumption) ?_
       rotate_left
       ·intro wq hSw; (try dsimp only at hSw); go_simp; (try with_reducible rfl)
       (try simp only [Act.put, List.setIfInBounds_toArray, List.set_cons_zero, List.set_cons_succ]))
      | (
       refine wpAnyH_take (i := 6) (oi := ⟨some 61, _, _, _, _, _⟩) (v := ?_) rfl (by decide +kernel) (by decide +kernel) (by decide +kernel) (fun _ _ _ h => h) (Or.inl ⟨by rfl, ?_⟩) (by assumption) ?_
       rotate_left
       ·intro wq hSw; (try dsimp only at hSw); go_simp; (try with_reducible rfl)
       (try simp only [Act.put, List.setIfInBounds_toArray, List.set_cons_zero, List.set_cons_succ]))
      | (
       refine wpAnyH_take (i := 7) (oi := ⟨some 62, _, _, _, _, _⟩) (v := ?_) rfl (by decide +kernel) (by decide +kernel) (by decide +kernel) (fun _ _ _ h => h) (Or.inl ⟨by rfl, ?_⟩) (by assumption) ?_
       rotate_left
       ·intro wq hSw; (try dsimp only at hSw); go_simp; (try with_reducible rfl)
       (try simp only [Act.put, List.setIfInBounds_toArray, List.set_cons_zero, List.set_cons_succ]))
      | (
       refine wpAnyH_take (i := 9) (oi := ⟨some 64, _, _, _, _, _⟩) (v := ?_) rfl (by decide +kernel) (by decide +kernel) (by decide +kernel) (fun _ _ _ h => h) (Or.inl ⟨by rfl, ?_⟩) (by assumption) ?_
       rotate_left
       ·intro wq hSw; (try dsimp only at hSw); go_simp; (try with_reducible rfl)
       (try simp only [Act.put, List.setIfInBounds_toArray, List.set_cons_zero, List.set_cons_succ]))
      | (refine wpAnyH_ready (rs := [8]) ?_ ?_ ?_; decide +kernel; simp)
      | (refine wpAnyH_ready (rs := [10]) ?_ ?_ ?_; decide +kernel; simp)
      | (refine wpAnyH_ready (rs := [11]) ?_ ?_ ?_; decide +kernel; simp)
      | (
       first
        | (
         refine AllReadyH.cons (i := 8) (o := ⟨some 63, _, _, _, _, _⟩) rfl (fun K hK => ?_) ?_
         go_simp
         go_at_call 57; refine Calls.mono (zsub_n (hy.out.below kW) (hz1.out.below kW) (by omega) (by omega)) ?_; rintro e wD ⟨sD, aD, lD, cD, rfl, hzD, kD, hlD⟩
         have kW := grow_step kD kW
         try go_wp2_with fail)
        | (
         refine AllReadyH.cons (i := 10) (o := ⟨some 65, _, _, _, _, _⟩) rfl (fun K hK => ?_) ?_
         go_simp
         go_at_call 82; refine Calls.mono (atMost_n (z := ⟨sD, aD, lD, cD⟩) hzD.zm (by show lD ≤ 1099511627776; omega) hpk.out hEb) ?_; rintro e wM ⟨rfl, kM⟩; (try rw [hcnt.out])
         have kW := grow_step kM kW
         try go_wp2_with fail)
        | (
         refine AllReadyH.cons (i := 11) (o := ⟨some 10, _, _, _, _, _⟩) rfl (fun K hK => ?_) ?_
         go_simp)
       refine hK.out _ _ ?_ ?_
       ·first | with_reducible exact trivial | ((try dsimp only); exact ⟨(Below.cell kW hgl).trans y0, (Below.cell kW hgl).trans y1, (ye.out.below kW).c0, (ye.out.below kW).c1⟩)
       clear hK K hHeld; intro hHeld
       (try simp only [Act.put, List.setIfInBounds_toArray, List.set_cons_zero, List.set_cons_succ]))
     refine wpAnyH_done ?_ ?_ _
     ·decide +kernel
     have kX := hide kW
     clear kW hHeld hwk kD kM hzD hlD hy y0 y1 hpk hcnt
     generalize wM = w5 at *
     have kT := hide (grow_step kX.out kra.out)
     have kA := hide (grow_step kT.out k4.out)
     have yX := ye.out.below kX.out
     have x0 := yX.c0
     have x1 := yX.c1
     have x2 := yX.c2
     have x3 := yX.c3
     have hag1 := hide (agreeAt_n (z := z) (i := (se L k).i) (j := (se L k).j) (hA.out.below kA.out) (hB.out.below kA.out) (hz1.out.below kX.out) (by omega) hiA hiB (show cN ≤ 8192 by omega))
     clear yX hz1
     go_wp2_with fail
     refine hag1.out.mono ?_
     rintro e w6 ⟨b, rfl, k6, hb⟩
     have hb1 := hide hb
     have kf := hide (grow_step k6 kA.out)
     have kg := hide (grow_step k6 kT.out)
     clear hag1 x0 x1 x2 x3 hb k6
     cases b
     ·have hno : Hid (¬ ∀ x, mem A x = mem B x) := hide fun h => (by have := hb1.out.2 (by rw [← hcN.out]; exact hag.out.2 h k hkn); cases this)
      go_wp2
      exact bodyPost_ret (results_tmp rfl _ _ _) rfl ⟨false, rfl, kf.out, ⟨fun h => (by cases h), fun h => absurd h hno.out⟩⟩
     ·have hyes := hide (hb1.out.1 rfl)
      go_wp2
      go_roundw
      case measure => simp [intOf]; omega
      case rel => exact ⟨k + 1, by omega, by go_num, fun j hj t ht => (by
       by_cases e : j = k
       ·subst e
        rw [hcN.out] at ht
        exact hyes.out t ht
       ·exact hkh.out j (by omega) t ht), kg.out⟩
    ·obtain ⟨cN, hcN⟩ : ∃ cN, E = cN := ⟨_, rfl⟩
     subst hcN
     have hcl : E ≤ E := Nat.le_refl _
     have hcN : Hid (cnt F m E k = E) := hide (by unfold cnt; rw [if_neg hkm])
     have hlt : decide (k < m) = false := by rw [decide_eq_false_iff_not]; exact hkm
     go_upto_region 11 with (fail)
     clear c0 c1 c2 c3
     have kX := hide (Below.refl (wr.alloc (.cells #[.bool z.s, .slice z.a z.l z.c, .int .i64 (se L k).i, .int .i64 (se L k).j] 102)).heap.size (wr.alloc (.cells #[.bool z.s, .slice z.a z.l z.c, .int .i64 (se L k).i, .int .i64 (se L k).j] 102)))
     generalize wr.alloc (.cells #[.bool z.s, .slice z.a z.l z.c, .int .i64 (se L k).i, .int .i64 (se L k).j] 102) = w5 at *
     generalize wr.heap.size = bt at *
     replace ye := hide ye
     clear ba
     have kT := hide (grow_step kX.out kra.out)
     have kA := hide (grow_step kT.out k4.out)
     have yX := ye.out.below kX.out
     have x0 := yX.c0
     have x1 := yX.c1
     have x2 := yX.c2
     have x3 := yX.c3
     have hag1 := hide (agreeAt_n (z := z) (i := (se L k).i) (j := (se L k).j) (hA.out.below kA.out) (hB.out.below kA.out) (hz1.out.below kX.out) (by omega) hiA hiB (show E ≤ 8192 by omega))
     clear yX hz1
     go_wp2_with fail
     refine hag1.out.mono ?_
     rintro e w6 ⟨b, rfl, k6, hb⟩
     have hb1 := hide hb
     have kf := hide (grow_step k6 kA.out)
     have kg := hide (grow_step k6 kT.out)
     clear hag1 x0 x1 x2 x3 hb k6
     cases b
     ·have hno : Hid (¬ ∀ x, mem A x = mem B x) := hide fun h => (by have := hb1.out.2 (by rw [← hcN.out]; exact hag.out.2 h k hkn); cases this)
      go_wp2
      exact bodyPost_ret (results_tmp rfl _ _ _) rfl ⟨false, rfl, kf.out, ⟨fun h => (by cases h), fun h => absurd h hno.out⟩⟩
     ·have hyes := hide (hb1.out.1 rfl)
      go_wp2
      go_roundw
      case measure => simp [intOf]; omega
      case rel => exact ⟨k + 1, by omega, by go_num, fun j hj t ht => (by
       by_cases e : j = k
       ·subst e
        rw [hcN.out] at ht
        exact hyes.out t ht
       ·exact hkh.out j (by omega) t ht), kg.out⟩
   ·obtain rfl : k = m + 1 := by omega
    have hfin : Hid (∀ x, mem A x = mem B x) := hide (hag.out.1 fun j hj t ht => hall.out j hj t ht)
    have kf := hide (grow_step kr k4.out)
    clear kr
    go_wp2
    exact bodyPost_ret (results_tmp rfl _ _ _) rfl ⟨true, rfl, kf.out, ⟨fun _ => hfin.out, fun _ => rfl⟩⟩
end Pd
end Go.Proofs.Ytojciccmjpabmaa

namespace Go.Proofs.Ytojciccmjpabmaa
open Go.RowKit
namespace Pd

set_option maxRecDepth 100000 in
set_option maxHeartbeats 1600000 in
theorem same_n {w : World} {bA bB : Nat} {A B : PD} (hA : PS w bA A) (hB : PS w bB B) (hfA : A.cs.length ≤ 536869999) (hfB : B.cs.length ≤ 536869999) :
  Calls Try.prog 20 #[.pointer (some ⟨bA, 0, none⟩), .pointer (some ⟨bB, 0, none⟩)] w fun e w' => ∃ b, e = .returned (.bool b) ∧ Below w.heap.size w w' ∧ (b = true ↔ ∀ x, mem A x = mem B x) := by
 have hj := hide (agree_n hA hB hfA hfB)
 go_enter Try.func20, Try.ntmps20
 go_wp2_with fail
 refine hj.out.mono ?_
 rintro e w1 ⟨b, rfl, k1, h1⟩
 replace h1 := hide h1
 clear hj
 go_wp2
 exact bodyPost_ret (results_tmp rfl _ _ _) rfl ⟨b, rfl, k1, h1.out⟩
end Pd
end Go.Proofs.Ytojciccmjpabmaa

namespace Go.Proofs.Ytojciccmjpabmaa
open Go.RowKit
namespace Pd

/-- append of several to a row of one's own -/
theorem appz_wp {α : Type} {enc : α → List Value} {T e : TypeId} {z : Value} {sz by' : Nat} (hT : Try.prog.underlying T = some (.slice e)) (hI : (Try.prog.info? e).map (fun i => (i.zero, i.size, i.bytes)) = some (some z, sz, by')) (hzs : z.cells.size = sz) (hsz : 0 < sz) (hby : by' ≤ 128)
  (henc : ∀ x, (enc x).length = sz) (hone : ∀ x, ∀ u ∈ enc x, u.oneCell' = true) {w : World} {base n m : Nat} {v : Value} {l : List α} {ops : Array Oper} {rest : List Oper} {o : Oper} {a : Act} {Q : Exit → Act → World → Prop} (hgd : o.guard = none) (s x : Operand) (ho : o.op = .call { callee := .builtin .append, args := #[s, x], argTypes := #[T, T] }) (hs : a.eval s = v)
  (h : OwZ enc z.cells e sz w base v n l) (ts : List α) (hm : ts.length = m) (hx : (a.eval x = .slice none 0 0 ∧ m = 0) ∨ ∃ ad c, a.eval x = .slice (some ad) m c ∧ ∀ j u, (encL enc ts)[j]? = some u → w.cell? (ad.add j) = some u) (h63 : n + m ≤ 1073741825) (hbase : base ≤ w.heap.size)
  (hK : ∀ v' w', OwZ enc z.cells e sz w' base v' (n + m) (l ++ ts) → w.grownBy w' v.ownBlock → (v'.ownBlock = v.ownBlock ∨ v'.ownBlock = some w.heap.size) → wpList Try.prog ops Q rest (a.put o.dst v') w') : wpList Try.prog ops Q (o :: rest) a w := by
 refine wpList_plain hgd fun K hK2 => ?_
 obtain ⟨v', w', hr, h2, h3, h4⟩ := appz hT hI hzs hsz hby henc hone h ts hm (src := a.eval x) (hx.imp id fun ⟨ad, c, e1, e2⟩ => ⟨ad, c, e1, e2⟩) h63 hbase o.type
 unfold Oper.wp execOp
 simp only [ho, resolve, invoke, builtin, Sem.run_bind, Sem.run_pure, Result.andThen_ok, List.map_toArray, List.map_cons, List.map_nil, hs, hr]
 exact hK2 _ _ (hK v' w' h2 h3 h4)
/-- numbers, one by one, wherever they lie -/
structure Pm (w : World) (q : List ZV) (xs : List Int) : Prop where
 len : q.length = xs.length
 nu : ∀ i (h : i < q.length) (h' : i < xs.length), Zm w q[i].s q[i].a q[i].l q[i].c xs[i] ∧ q[i].l ≤ 1073741826
theorem Pm.below {w w' : World} {q : List ZV} {xs : List Int} (h : Pm w q xs) (k : Below w.heap.size w w') : Pm w' q xs := ⟨h.len, fun i h1 h2 => ⟨(h.nu i h1 h2).1.below k, (h.nu i h1 h2).2⟩⟩
theorem Pm.grown {w w' : World} {q : List ZV} {xs : List Int} {g : Nat} (h : Pm w q xs) (hg : w.grownBy w' (some g)) (hno : ∀ off u, w.cell? ⟨g, off, none⟩ = some u → ∀ k i, u ≠ .int k i) : Pm w' q xs := ⟨h.len, fun i h1 h2 => ⟨zm_grown (h.nu i h1 h2).1 hg hno, (h.nu i h1 h2).2⟩⟩
theorem Pm.app {w : World} {q r : List ZV} {xs ys : List Int} (h : Pm w q xs) (h2 : Pm w r ys) : Pm w (q ++ r) (xs ++ ys) := by
 have hl := h.len
 have hl2 := h2.len
 refine ⟨by simp [hl, hl2], fun i h1 h3 => ?_⟩
 by_cases hi : i < q.length
 ·rw [List.getElem_append_left hi, List.getElem_append_left (by omega)]
  exact h.nu i hi (by omega)
 ·rw [List.getElem_append_right (by omega), List.getElem_append_right (by omega)]
  have := h2.nu (i - q.length) (by simp at h1; omega) (by simp at h1; omega)
  simpa [hl] using this
theorem pm_one {w : World} {z : ZV} {x : Int} (h : Zm w z.s z.a z.l z.c x) (hl : z.l ≤ 1073741826) : Pm w [z] [x] := ⟨rfl, fun i h1 h2 => by
 obtain rfl : i = 0 := by simp at h1; omega
 exact ⟨h, hl⟩⟩
/-- numbers in a slice, wherever they lie -/
def NS (w : World) (ad : Option Addr) (n : Nat) (xs : List Int) : Prop :=
 xs.length = n ∧ (n = 0 ∨ ∃ b q, ad = some ⟨b, 0, none⟩ ∧ b < w.heap.size ∧ Pm w q xs ∧ ∀ i (h : i < q.length) j, j < 2 → w.cell? ⟨b, i * 2 + j, none⟩ = (q[i]).enc[j]?)
theorem NS.below {w w' : World} {ad : Option Addr} {n : Nat} {xs : List Int} (h : NS w ad n xs) (k : Below w.heap.size w w') : NS w' ad n xs := by
 refine ⟨h.1, h.2.imp id ?_⟩
 rintro ⟨b, q, e, hb, hq, hc⟩
 exact ⟨b, q, e, Nat.lt_of_lt_of_le hb k.size, hq.below k, fun i hi j hj => (k.cell (p := ⟨b, i * 2 + j, none⟩) hb).trans (hc i hi j hj)⟩
theorem NS.get {w : World} {ad : Option Addr} {n : Nat} {xs : List Int} (h : NS w ad n xs) {i : Nat} (hi : i < n) : ∃ b z x, ad = some ⟨b, 0, none⟩ ∧ b < w.heap.size ∧ w.cell? ⟨b, i * 2, none⟩ = some (.bool (ZV.s z)) ∧ w.cell? ⟨b, i * 2 + 1, none⟩ = some (.slice z.a z.l z.c) ∧ Zm w z.s z.a z.l z.c x ∧ z.l ≤ 1073741826 := by
 obtain ⟨hl, h0 | ⟨b, q, e, hb, hq, hc⟩⟩ := h
 ·omega
 ·have hql := hq.len
  have h1 := hq.nu i (by omega) (by omega)
  refine ⟨b, q[i]'(by omega), _, e, hb, ?_, ?_, h1⟩
  ·have := hc i (by omega) 0 (by decide)
   rwa [Nat.add_zero] at this
  ·exact hc i (by omega) 1 (by decide)
abbrev zI : Value := .agg #[.bool false, .slice none 0 0]
/-- a row of numbers of one's own -/
abbrev OwI (w : World) (base : Nat) (v : Value) (n : Nat) (q : List ZV) : Prop := OwZ ZV.enc zI.cells 36 2 w base v n q
theorem owi_no {w : World} {base n : Nat} {v : Value} {q : List ZV} (h : OwI w base v n q) {g : Nat} (hg : v.ownBlock = some g) : ∀ off u, w.cell? ⟨g, off, none⟩ = some u → ∀ k i, u ≠ .int k i := by
 refine h.all (by decide) rfl (R := fun u => ∀ k i, u ≠ .int k i) (fun x u hu => ?_) (fun j hj => ?_) hg
 ·simp only [ZV.enc, List.mem_cons, List.not_mem_nil, or_false] at hu
  rcases hu with rfl | rfl <;> exact fun k i h => by cases h
 ·match j, hj with
  | 0, _ => exact fun k i h => by cases h
  | 1, _ => exact fun k i h => by cases h
theorem owi_blk {w : World} {base n : Nat} {v : Value} {q : List ZV} (h : OwI w base v n q) : ∃ g, v.ownBlock = some g ∧ base ≤ g := by
 obtain ⟨-, g, c, -, -, -, h1, -, h2, -⟩ := h.any (by decide) zv_len
 exact ⟨g, h2, h1⟩
/-- a row of one's own as a slice of numbers -/
theorem owi_ns {w : World} {base n : Nat} {v : Value} {q : List ZV} {xs : List Int} (h : OwI w base v n q) (hq : Pm w q xs) : ∃ a c, v = .slice a n c ∧ NS w a n xs := by
 obtain ⟨h1, g, c, rfl, h2, h3, h4, ho, h5, hc⟩ := h.any (by decide) zv_len
 exact ⟨_, c, rfl, by rw [← hq.len, h1], .inr ⟨g, q, rfl, ho.lt, hq, hc⟩⟩
/-- a set in another one's list -/
def encp (b : Nat) : List Value := [.pointer (some ⟨b, 0, none⟩)]
theorem encp_len (b : Nat) : (encp b).length = 1 := rfl
theorem encp_one (b : Nat) : ∀ u ∈ encp b, u.oneCell' = true := fun u hu => by
 obtain rfl : u = _ := by simpa [encp] using hu
 rfl
theorem infoP : (Try.prog.info? 27).map (fun i => (i.zero, i.size, i.bytes)) = some (some (.pointer none), 1, 8) := by kernel_rfl
/-- sets, one by one -/
structure Pp (w : World) (q : List Nat) (Ds : List PD) : Prop where
 len : q.length = Ds.length
 st : ∀ i (h : i < q.length) (h' : i < Ds.length), PS w q[i] Ds[i]
theorem Pp.below {w w' : World} {q : List Nat} {Ds : List PD} (h : Pp w q Ds) (k : Below w.heap.size w w') : Pp w' q Ds := ⟨h.len, fun i h1 h2 => (h.st i h1 h2).below k⟩
theorem Pp.app {w : World} {q r : List Nat} {xs ys : List PD} (h : Pp w q xs) (h2 : Pp w r ys) : Pp w (q ++ r) (xs ++ ys) := by
 have hl := h.len
 have hl2 := h2.len
 refine ⟨by simp [hl, hl2], fun i h1 h3 => ?_⟩
 by_cases hi : i < q.length
 ·rw [List.getElem_append_left hi, List.getElem_append_left (by omega)]
  exact h.st i hi (by omega)
 ·rw [List.getElem_append_right (by omega), List.getElem_append_right (by omega)]
  have := h2.st (i - q.length) (by simp at h1; omega) (by simp at h1; omega)
  simpa [hl] using this
theorem pp_one {w : World} {b : Nat} {D : PD} (h : PS w b D) : Pp w [b] [D] := ⟨rfl, fun i h1 h2 => by
 obtain rfl : i = 0 := by simp at h1; omega
 exact h⟩
/-- sets in a slice -/
def SLs (w : World) (ad : Option Addr) (n : Nat) (Ds : List PD) : Prop :=
 Ds.length = n ∧ (n = 0 ∨ ∃ b q, ad = some ⟨b, 0, none⟩ ∧ b < w.heap.size ∧ Pp w q Ds ∧ ∀ i (h : i < q.length), w.cell? ⟨b, i, none⟩ = some (.pointer (some ⟨q[i], 0, none⟩)))
theorem SLs.below {w w' : World} {ad : Option Addr} {n : Nat} {Ds : List PD} (h : SLs w ad n Ds) (k : Below w.heap.size w w') : SLs w' ad n Ds := by
 refine ⟨h.1, h.2.imp id ?_⟩
 rintro ⟨b, q, e, hb, hq, hc⟩
 exact ⟨b, q, e, Nat.lt_of_lt_of_le hb k.size, hq.below k, fun i hi => (k.cell (p := ⟨b, i, none⟩) hb).trans (hc i hi)⟩
theorem SLs.get {w : World} {ad : Option Addr} {n : Nat} {Ds : List PD} (h : SLs w ad n Ds) {i : Nat} (hi : i < n) (hi' : i < Ds.length) : ∃ b s, ad = some ⟨b, 0, none⟩ ∧ b < w.heap.size ∧ w.cell? ⟨b, i, none⟩ = some (.pointer (some ⟨s, 0, none⟩)) ∧ PS w s Ds[i] := by
 obtain ⟨hl, h0 | ⟨b, q, e, hb, hq, hc⟩⟩ := h
 ·omega
 ·have hql := hq.len
  exact ⟨b, q[i]'(by omega), e, hb, hc i (by omega), hq.st i (by omega) hi'⟩
abbrev OwP (w : World) (base : Nat) (v : Value) (n : Nat) (q : List Nat) : Prop := OwZ encp (Value.pointer none).cells 27 1 w base v n q
theorem owp_ptr {w : World} {base n : Nat} {v : Value} {q : List Nat} (h : OwP w base v n q) {g : Nat} (hg : v.ownBlock = some g) : ∀ off u, w.cell? ⟨g, off, none⟩ = some u → ∃ p, u = .pointer p := by
 refine h.all (by decide) rfl (R := fun u => ∃ p, u = .pointer p) (fun x u hu => ?_) (fun j hj => ?_) hg
 ·obtain rfl : u = _ := by simpa [encp] using hu
  exact ⟨_, rfl⟩
 ·match j, hj with
  | 0, _ => exact ⟨_, rfl⟩
theorem Pp.grown {w w' : World} {base n : Nat} {v : Value} {q r : List Nat} {Ds : List PD} (h : Pp w r Ds) (ho : OwP w base v n q) (hg : w.grownBy w' v.ownBlock) : Pp w' r Ds := by
 obtain ⟨-, g, c, -, -, -, h1, hO, h2, -⟩ := ho.any (by decide) encp_len
 rw [h2] at hg
 exact ⟨h.len, fun i a1 a2 => ps_grown (h.st i a1 a2) hg hO (by decide) (by decide) (by decide) (owp_ptr ho h2)⟩
theorem owp_sl {w : World} {base n : Nat} {v : Value} {q : List Nat} {Ds : List PD} (h : OwP w base v n q) (hq : Pp w q Ds) : ∃ a c, v = .slice a n c ∧ SLs w a n Ds := by
 obtain ⟨h1, g, c, rfl, h2, h3, h4, ho, h5, hc⟩ := h.any (by decide) encp_len
 refine ⟨_, c, rfl, by rw [← hq.len, h1], .inr ⟨g, q, rfl, ho.lt, hq, fun i hi => ?_⟩⟩
 have := hc i hi 0 (by decide)
 rw [Nat.mul_one, Nat.add_zero] at this
 exact this
end Pd
end Go.Proofs.Ytojciccmjpabmaa

namespace Go.Proofs.Ytojciccmjpabmaa
open Go.RowKit
namespace Pd

theorem xp_pm {w : World} {ad : Option Addr} {n c : Nat} {q : List ZV} {xs : List Int} (h : XP w ad n c q xs) : Pm w q xs := ⟨by rw [h.1, h.2.1], fun i h1 h2 => ⟨(h.2.2.2.1 i h1 h2).1, Nat.le_trans (h.2.2.2.1 i h1 h2).2 (by decide)⟩⟩
theorem enc_at {q : List ZV} {j : Nat} {u : Value} (h : (encL ZV.enc q)[j]? = some u) : ∃ i k, ∃ hi : i < q.length, k < 2 ∧ j = i * 2 + k ∧ (q[i]).enc[k]? = some u := by
 induction q generalizing j with
 | nil => simp [encL] at h
 | cons x r ih =>
  have e : encL ZV.enc (x :: r) = x.enc ++ encL ZV.enc r := rfl
  rw [e] at h
  by_cases hj : j < 2
  ·rw [List.getElem?_append_left (by rw [zv_len]; exact hj)] at h
   exact ⟨0, j, by simp, hj, by omega, h⟩
  ·rw [List.getElem?_append_right (by rw [zv_len]; omega), zv_len] at h
   obtain ⟨i, k, hi, hk, e1, e2⟩ := ih h
   exact ⟨i + 1, k, by simp; omega, hk, by omega, e2⟩
theorem xp_src {w : World} {ad : Option Addr} {n c : Nat} {q : List ZV} {xs : List Int} (h : XP w ad n c q xs) : (Value.slice ad n c = .slice none 0 0 ∧ n = 0) ∨ ∃ a c', Value.slice ad n c = .slice (some a) n c' ∧ ∀ j u, (encL ZV.enc q)[j]? = some u → w.cell? (a.add j) = some u := by
 obtain ⟨h1, h2, h3, h4, h5⟩ := h
 cases ad with
 | none =>
  obtain ⟨rfl, rfl⟩ := h3 rfl
  exact .inl ⟨rfl, rfl⟩
 | some a =>
  refine .inr ⟨a, c, rfl, fun j u hu => ?_⟩
  obtain ⟨i, k, hi, hk, rfl, e⟩ := enc_at hu
  rcases h5 with h5 | ⟨b, off, h6, h7, h8⟩
  ·omega
  ·cases h6
   rw [Addr.add_lit, h8 i hi k hk, e]
theorem one_src {w : World} {g : Nat} {z : ZV} (h : ZB w g z.s z.a z.l z.c) : ∀ j u, (encL ZV.enc [z])[j]? = some u → w.cell? ((⟨g, 0, none⟩ : Addr).add j) = some u := fun j u hu => by
 rw [Addr.add_lit, Nat.zero_add]
 exact zv_cells h j u (by simpa [encL] using hu)
theorem two_src {w : World} {z y : ZV} : ∀ j u, (encL ZV.enc [z, y])[j]? = some u → (w.alloc (.cells #[.bool z.s, .slice z.a z.l z.c, .bool y.s, .slice y.a y.l y.c] 36)).cell? ((⟨w.heap.size, 0, none⟩ : Addr).add j) = some u := fun j u hu => by
 rw [Addr.add_lit, Nat.zero_add, cell_of_row _ _ _ _ _ (0, 0) (heap_alloc_new w _)]
 simpa [encL, ZV.enc] using hu
/-- a list of numbers stays where another one grows -/
theorem cl_step {w w' : World} {ad : Option Addr} {n c : Nat} {cs : List Int} {g : Nat} {e : TypeId} (h : CL w ad n c cs) (hg : w.grownBy w' (some g)) (ho : Own w g e) (he : 78 ≠ e) (hne : ∀ b off, ad = some ⟨b, off, none⟩ → b ≠ g) : CL w' ad n c cs := by
 refine ⟨h.len, h.cap, h.at'.imp id ?_⟩
 rintro ⟨b, off, e1, hb, q, hq, hc⟩
 have hb' : some b ≠ some g := fun e2 => hne b off e1 (Option.some.inj e2)
 refine ⟨b, off, e1, Nat.lt_of_lt_of_le hb hg.size, q, hq.grown hg (fun g' e2 => by cases e2; exact ⟨e, ho, he⟩), fun i hi => ⟨?_, ?_⟩⟩
 ·exact (World.cell?_of_block (a := ⟨b, off + i * 2, none⟩) (hg.block b hb hb')).trans (hc i hi).1
 ·exact (World.cell?_of_block (a := ⟨b, off + i * 2 + 1, none⟩) (hg.block b hb hb')).trans (hc i hi).2
/-- a row of numbers grows: what is told of numbers and of what lies ahead stays -/
theorem owi_step {w0 w w' : World} {base n : Nat} {v : Value} {q : List ZV} (h : OwI w base v n q) (hg : w.grownBy w' v.ownBlock) (k : Below base w0 w) (hb : base ≤ w.heap.size) : Below base w0 w' ∧ ∀ r xs, Pm w r xs → Pm w' r xs := by
 obtain ⟨g, hgb, hge⟩ := owi_blk h
 refine ⟨below_grown k hg (fun g' e => ?_) hb, fun r xs hr => ?_⟩
 ·rw [hgb] at e; cases e; exact hge
 ·rw [hgb] at hg
  exact hr.grown hg (owi_no h hgb)
theorem owi_own {w : World} {base n : Nat} {v : Value} {q : List ZV} (h : OwI w base v n q) : ∃ g, v.ownBlock = some g ∧ g < w.heap.size ∧ Own w g 36 := by
 obtain ⟨-, g, c, -, -, -, h1, h3, h2, -⟩ := h.any (by decide) zv_len
 exact ⟨g, h2, h3.lt, h3⟩
theorem owi_form {w : World} {base n : Nat} {v : Value} {q : List ZV} (h : OwI w base v n q) : q.length = n ∧ ∃ g c, v = .slice (some ⟨g, 0, none⟩) n c := by
 obtain ⟨h1, g, c, rfl, -⟩ := h.any (by decide) zv_len
 exact ⟨h1, g, c, rfl⟩
set_option maxRecDepth 100000 in
set_option maxHeartbeats 6400000 in
theorem some_n {w : World} {pa sa : Option Addr} {np cp sn sc : Nat} {qp : List ZV} {xp : List Int} {Ds : List PD} (hp : XP w pa np cp qp xp) (hnp : np ≤ 1048576) (hs : SLs w sa sn Ds) (hsn : sn ≤ 2) (hcs : ∀ D ∈ Ds, D.cs.length ≤ 16384) :
  Calls Try.prog 12 #[.slice pa np cp, .slice sa sn sc] w fun e w' => ∃ a n c xs, e = .returned (.slice a n c) ∧ NS w' a n xs ∧ n ≤ 1200000 ∧ Below w.heap.size w w' := by
 have hp0 := hide (xp_pm hp)
 have hp1 := hide hp
 have hql : Hid (qp.length = np) := hide hp.2.1
 have hsl : Hid (Ds.length = sn) := hide hs.1
 clear hp
 replace hs := hide hs
 replace hcs := hide hcs
 go_enter Try.func12, Try.ntmps12
 have b0 := hide (below_alloc w (.cells #[] 36))
 have o0 := hide (owz_lit (enc := ZV.enc) (zc := zI.cells) (e := 36) zv_len w [] 0 rfl (by decide) #[] rfl)
 go_wp2_with (refine appz_wp Try.underlying23 infoI rfl (by decide) (by decide) zv_len zv_one rfl _ _ rfl rfl o0.out qp hql.out (xp_src (hp1.out.below b0.out)) (by omega) b0.out.size ?_)
 intro v1 w1 o1 g1 _
 obtain ⟨k1, p1⟩ := owi_step o0.out g1 b0.out b0.out.size
 replace p1 := hide (p1 _ _ (hp0.out.below b0.out))
 replace k1 := hide k1
 obtain ⟨-, ga, ca, rfl⟩ := owi_form o1
 replace o1 := hide o1
 clear b0 o0 hp0 hp1 g1
 go_wp2_with fail
 go_loopw [5, 6] (fun va vi wr => ∃ (k g c : Nat) (q : List ZV) (xs : List Int), k ≤ 19 ∧ vi = .int .i64 ((k : Int) - 9) ∧ va = .slice (some ⟨g, 0, none⟩) (np + k) c ∧ OwI wr w.heap.size (.slice (some ⟨g, 0, none⟩) (np + k) c) (np + k) q ∧ Pm wr q xs ∧ Below w.heap.size w wr) (fun _ vi _ => 19 - (intOf vi + 9).toNat)
 case atStart => exact ⟨0, ga, ca, qp, xp, by decide, rfl, rfl, o1.out, p1.out, k1.out⟩
 case round =>
  obtain ⟨k, g, c, q, xs, hk, rfl, rfl, ho, hq, kr⟩ := hrel
  by_cases hk9 : k < 19
  ·have hrof := hide (rof_n ((k : Int) - 9) (by omega) (by omega) wr)
   go_wp2_with fail
   refine hrof.out.mono ?_
   rintro e w2 ⟨s1, a1, l1, c1, rfl, hz, k2, hl1⟩
   have b3 := below_alloc w2 (.cells #[.bool s1, .slice a1 l1 c1] 36)
   have z3 := zb_new w2 s1 a1 l1 c1
   have k3 := hide (grow_step b3 (grow_step k2 kr))
   have o3 := hide ((ho.below k2).below b3)
   have q3 := hide ((hq.below k2).below b3)
   have y3 := hide (pm_one (z := ⟨s1, a1, l1, c1⟩) (hz.zm.below b3) (by show l1 ≤ 1073741826; omega))
   have c3 := hide (one_src (z := ⟨s1, a1, l1, c1⟩) z3)
   clear hrof b3 z3 hz k2 kr ho hq
   go_wp2_with (refine appz_wp (m := 1) Try.underlying23 infoI rfl (by decide) (by decide) zv_len zv_one rfl _ _ rfl rfl o3.out [⟨s1, a1, l1, c1⟩] rfl (.inr ⟨_, _, rfl, c3.out⟩) (by omega) k3.out.size ?_)
   intro v4 w4 o4 g4 _
   obtain ⟨k4, p4⟩ := owi_step o3.out g4 k3.out k3.out.size
   replace p4 := hide (p4 _ _ (q3.out.app y3.out))
   replace k4 := hide k4
   obtain ⟨-, g', c', rfl⟩ := owi_form o4
   replace o4 := hide o4
   clear o3 q3 y3 c3 k3 g4
   go_wp2
   go_roundw
   case measure => simp [intOf]; omega
   case rel => exact ⟨k + 1, g', c', _, _, by omega, by go_num, rfl, o4.out, p4.out, k4.out⟩
  ·rw [show (k : Int) - 9 = 10 by omega]
   obtain ⟨N0, hN0⟩ : ∃ N0, np + k = N0 := ⟨_, rfl⟩
   rw [hN0] at ho ⊢
   have hNb : N0 ≤ 1048576 + 19 := by omega
   replace hN0 := hide hN0
   replace ho := hide ho
   replace hq := hide hq
   replace kr := hide kr
   go_wp2_with fail
   go_loopw [5, 7] (fun va vi wr => ∃ (i N g c : Nat) (q : List ZV) (xs : List Int), i ≤ sn ∧ N ≤ N0 + i * 32768 ∧ vi = .int .i64 i ∧ va = .slice (some ⟨g, 0, none⟩) N c ∧ OwI wr w.heap.size (.slice (some ⟨g, 0, none⟩) N c) N q ∧ Pm wr q xs ∧ Below w.heap.size w wr) (fun _ vi _ => sn - (intOf vi).toNat)
   case atStart => exact ⟨0, N0, g, c, q, xs, Nat.zero_le _, by omega, rfl, rfl, ho.out, hq.out, kr.out⟩
   case round =>
    clear ho hq kr
    obtain ⟨i, N, g2, c2, q2, xs2, hi, hN, rfl, rfl, ho, hq, kr⟩ := hrel
    by_cases hin : i < sn
    ·obtain ⟨sb, ss, rfl, hsb, d0, hps⟩ := (hs.out.below kr).get hin (by rw [hsl.out]; exact hin)
     have hDs : Ds[i]'(by rw [hsl.out]; exact hin) ∈ Ds := List.getElem_mem _
     have hcn := hcs.out _ hDs
     generalize Ds[i]'(by rw [hsl.out]; exact hin) = D at *
     have hct := hide (cuts_n hps (by omega))
     obtain ⟨g0, hgb, hgl, hgo⟩ := owi_own ho
     have hg2 : g2 < wr.heap.size := by cases hgb; exact hgl
     clear hps hDs
     go_wp2_with fail
     refine hct.out.mono ?_
     rintro e w5 ⟨ca, cc, rfl, hcl, k5, hfr⟩
     have kr5 := hide (grow_step k5 kr)
     have ho5 := hide (ho.below k5)
     have hq5 := hide (hq.below k5)
     obtain ⟨nD, hnD⟩ : ∃ nD, D.cs.length = nD := ⟨_, rfl⟩
     rw [hnD] at hcl hfr hcn ⊢
     have hfr5 : Hid (0 < nD → ∀ b off, ca = some ⟨b, off, none⟩ → b ≠ g2) := hide fun h b off e e2 => by
      have := hfr h b off e
      omega
     replace hcl := hide hcl
     replace hnD := hide hnD
     clear hct ho hq kr k5 hfr hgl hgo hg2
     go_wp2_with fail
     go_loopw [5, 9] (fun va vi wr => ∃ (k N' g c : Nat) (q : List ZV) (xs : List Int), k ≤ nD ∧ N' ≤ N + k * 2 ∧ vi = .int .i64 k ∧ va = .slice (some ⟨g, 0, none⟩) N' c ∧ OwI wr w.heap.size (.slice (some ⟨g, 0, none⟩) N' c) N' q ∧ Pm wr q xs ∧ Below w.heap.size w wr ∧ CL wr ca nD cc D.cs ∧ (0 < nD → ∀ b off, ca = some ⟨b, off, none⟩ → b ≠ g)) (fun _ vi _ => nD - (intOf vi).toNat)
     case atStart => exact ⟨0, N, g2, c2, q2, xs2, Nat.zero_le _, by omega, rfl, rfl, ho5.out, hq5.out, kr5.out, hcl.out, hfr5.out⟩
     case round =>
      clear ho5 hq5 kr5 hcl hfr5
      obtain ⟨k, N', g3, c3, q3, xs3, hk, hN', rfl, rfl, ho, hq, kr, hcl, hfr⟩ := hrel
      by_cases hkn : k < nD
      ·obtain ⟨cb, off, z, rfl, hcb, e0, e1, hz⟩ := hcl.get hkn (by rw [hnD.out]; exact hkn)
       have hne := hfr (by omega) cb off rfl
       replace hfr := hide (hfr (by omega))
       generalize D.cs[k]'(by rw [hnD.out]; exact hkn) = x at *
       replace ho := hide ho
       replace hq := hide hq
       replace kr := hide kr
       replace hcl := hide hcl
       replace hz := hide hz
       go_upto_region 13 with (fail)
       refine wp_region_held_drew (S := (fun w' => w'.cell? ⟨cb, off + k * 2, none⟩ = some (.bool z.s) ∧ w'.cell? ⟨cb, off + k * 2 + 1, none⟩ = some (.slice z.a z.l z.c))) (by kernel_rfl) (⟨(Below.cell (p := ⟨cb, _, none⟩) (grow_drew (Below.refl _ _)) hcb).trans e0, (Below.cell (p := ⟨cb, _, none⟩) (grow_drew (Below.refl _ _)) hcb).trans e1⟩) (fun hHeld => ?_)
       show wpAnyH _ _ _ _ _ 14 _ _ _
       have kW := grow_drew (Below.refl wr.heap.size wr)
       generalize wr.drew = wQ at *
       have c0W := (Below.cell (p := ⟨cb, _, none⟩) kW hcb).trans e0
       have c1W := (Below.cell (p := ⟨cb, _, none⟩) kW hcb).trans e1
       repeat' first
        | with_reducible exact AllReadyH.nil
        | (
         refine wpAnyH_take (i := 0) (oi := ⟨some 39, _, _, _, _, _⟩) (v := ?_) rfl (by decide +kernel) (by decide +kernel) (by decide +kernel) (fun _ _ _ h => h) (Or.inl ⟨by rfl, ?_⟩) (by assumption) ?_
         rotate_left
         ·intro wq hSw; (try dsimp only at hSw); go_simp; (try with_reducible rfl)
         (try simp only [Act.put, List.setIfInBounds_toArray, List.set_cons_zero, List.set_cons_succ]))
        | (
         refine wpAnyH_take (i := 1) (oi := ⟨some 40, _, _, _, _, _⟩) (v := ?_) rfl (by decide +kernel) (by decide +kernel) (by decide +kernel) (fun _ _ _ h => h) (Or.inl ⟨by rfl, ?_⟩) (by assumption) ?_
         rotate_left
         ·intro wq hSw; (try dsimp only at hSw); go_simp; (try with_reducible rfl)
         (try simp only [Act.put, List.setIfInBounds_toArray, List.set_cons_zero, List.set_cons_succ]))
        | (
         refine wpAnyH_take (i := 2) (oi := ⟨some 41, _, _, _, _, _⟩) (v := ?_) rfl (by decide +kernel) (by decide +kernel) (by decide +kernel) (fun _ _ _ h => h) (Or.inl ⟨by rfl, ?_⟩) (by assumption) ?_
         rotate_left
         ·intro wq hSw; (try dsimp only at hSw); go_simp; (try with_reducible rfl)
         (try simp only [Act.put, List.setIfInBounds_toArray, List.set_cons_zero, List.set_cons_succ]))
        | (
         refine wpAnyH_take (i := 3) (oi := ⟨some 42, _, _, _, _, _⟩) (v := ?_) rfl (by decide +kernel) (by decide +kernel) (by decide +kernel) (fun _ _ _ h => h) (Or.inl ⟨by rfl, ?_⟩) (by assumption) ?_
         rotate_left
         ·intro wq hSw; (try dsimp only at hSw); go_simp; (try with_reducible rfl)
         (try simp only [Act.put, List.setIfInBounds_toArray, List.set_cons_zero, List.set_cons_succ]))
        | (
         refine wpAnyH_take (i := 4) (oi := ⟨some 43, _, _, _, _, _⟩) (v := ?_) rfl (by decide +kernel) (by decide +kernel) (by decide +kernel) (fun _ _ _ h => h) (Or.inl ⟨by rfl, ?_⟩) (by assumption) ?_
         rotate_left
         ·intro wq hSw; (try dsimp only at hSw); go_simp; (try with_reducible rfl)
         (try simp only [Act.put, List.setIfInBounds_toArray, List.set_cons_zero, List.set_cons_succ]))
        | (
         refine wpAnyH_take (i := 5) (oi := ⟨some 44, _, _, _, _, _⟩) (v := ?_) rfl (by decide +kernel) (by decide +kernel) (by decide +kernel) (fun _ _ _ h => h) (Or.inl ⟨by rfl, ?_⟩) (by assumption) ?_
         rotate_left
         ·intro wq hSw; (try dsimp only at hSw); go_simp; (try with_reducible rfl)
         (try simp only [Act.put, List.setIfInBounds_toArray, List.set_cons_zero, List.set_cons_succ]))
        | (
         refine wpAnyH_take (i := 6) (oi := ⟨some 45, _, _, _, _, _⟩) (v := ?_) rfl (by decide +kernel) (by decide +kernel) (by decide +kernel) (fun _ _ _ h => h) (Or.inl ⟨by rfl, ?_⟩) (by assumption) ?_
         rotate_left
         ·intro wq hSw; (try dsimp only at hSw); go_simp; (try with_reducible rfl)
         (try simp only [Act.put, List.setIfInBounds_toArray, List.set_cons_zero, List.set_cons_succ]))
        | (
         refine wpAnyH_take (i := 7) (oi := ⟨some 46, _, _, _, _, _⟩) (v := ?_) rfl (by decide +kernel) (by decide +kernel) (by decide +kernel) (fun _ _ _ h => h) (Or.inl ⟨by rfl, ?_⟩) (by assumption) ?_
         rotate_left
         ·intro wq hSw; (try dsimp only at hSw); go_simp; (try with_reducible rfl)
         (try simp only [Act.put, List.setIfInBounds_toArray, List.set_cons_zero, List.set_cons_succ]))
        | (
         refine wpAnyH_take (i := 8) (oi := ⟨some 47, _, _, _, _, _⟩) (v := ?_) rfl (by decide +kernel) (by decide +kernel) (by decide +kernel) (fun _ _ _ h => h) (Or.inl ⟨by rfl, ?_⟩) (by assumption) ?_
         rotate_left
         ·intro wq hSw; (try dsimp only at hSw); go_simp; (try with_reducible rfl)
         (try simp only [Act.put, List.setIfInBounds_toArray, List.set_cons_zero, List.set_cons_succ]))
        | (refine wpAnyH_ready (rs := [9]) ?_ ?_ ?_; decide +kernel; simp)
        | (refine wpAnyH_ready (rs := [10]) ?_ ?_ ?_; decide +kernel; simp)
        | (refine wpAnyH_ready (rs := [11]) ?_ ?_ ?_; decide +kernel; simp)
        | (refine wpAnyH_ready (rs := [12]) ?_ ?_ ?_; decide +kernel; simp)
        | (refine wpAnyH_ready (rs := [13]) ?_ ?_ ?_; decide +kernel; simp)
        | (
         first
          | (
           refine AllReadyH.cons (i := 9) (o := ⟨some 48, _, _, _, _, _⟩) rfl (fun K hK => ?_) ?_
           go_simp
           go_at_call 17; refine Calls.mono (rof_n 1 (by decide) (by decide) _) ?_; rintro e wA ⟨sA, aA, lA, cA, rfl, hzA, kA, hlA⟩
           have kW := grow_step kA kW
           have c0W := (Below.cell (p := ⟨cb, _, none⟩) kW hcb).trans e0
           have c1W := (Below.cell (p := ⟨cb, _, none⟩) kW hcb).trans e1
           try go_wp2_with fail)
          | (
           refine AllReadyH.cons (i := 10) (o := ⟨some 49, _, _, _, _, _⟩) rfl (fun K hK => ?_) ?_
           go_simp
           go_at_call 37; refine Calls.mono (rsub2_n (hz.out.zm.below kW) hzA.zm (by have := hz.out.le; omega) (by omega)) ?_; rintro e wB ⟨sB, aB, lB, cB, rfl, hzB, kB, hlB⟩
           have kW := grow_step kB kW
           have c0W := (Below.cell (p := ⟨cb, _, none⟩) kW hcb).trans e0
           have c1W := (Below.cell (p := ⟨cb, _, none⟩) kW hcb).trans e1
           try go_wp2_with fail)
          | (
           refine AllReadyH.cons (i := 11) (o := ⟨some 50, _, _, _, _, _⟩) rfl (fun K hK => ?_) ?_
           have t2 := two_src (w := wB) (z := z) (y := ⟨sB, aB, lB, cB⟩)
           obtain ⟨wL, bL, eL, ebL, hL, -, kL, kW⟩ := al_b kW (.cells #[.bool z.s, .slice z.a z.l z.c, .bool sB, .slice aB lB cB] 36)
           rw [eL.out, ebL.out] at t2
           have c0W := (Below.cell (p := ⟨cb, _, none⟩) kW hcb).trans e0
           have c1W := (Below.cell (p := ⟨cb, _, none⟩) kW hcb).trans e1
           go_simp
           rw [eL.out]
           (try simp only [ebL.out]))
          | (
           refine AllReadyH.cons (i := 12) (o := ⟨some 51, _, _, _, _, _⟩) rfl (fun K hK => ?_) ?_
           have oW := ho.out.below kW
           have qW := (hq.out.below kW).app (Pm.app (pm_one (z := z) (hz.out.zm.below kW) (by have := hz.out.le; omega)) (pm_one (z := ⟨sB, aB, lB, cB⟩) (hzB.zm.below kL) (by have := hz.out.le; show lB ≤ 1073741826; omega)))
           refine anyH_append rfl _ _ 23 rfl _ _ rfl rfl _ (appz (m := 2) Try.underlying23 infoI rfl (by decide) (by decide) zv_len zv_one oW [z, ⟨sB, aB, lB, cB⟩] rfl (.inr ⟨_, _, rfl, t2⟩) (by omega) (grow_step kW kr.out).size _) ?_
           rintro vE wE ⟨oE, gE0, bE⟩
           obtain ⟨kZ, pE⟩ := owi_step oW gE0 (grow_step kW kr.out) (grow_step kW kr.out).size
           replace pE := pE _ _ qW
           obtain ⟨go, hgo, hgol, hgO⟩ := owi_own oW
           cases hgo
           have clE := cl_step (hcl.out.below kW) gE0 hgO (by decide) hfr.out
           have hnx : (some cb : Option Nat) ≠ some g3 := fun e => hfr.out _ _ rfl (Option.some.inj e)
           have hcbw := Nat.lt_of_lt_of_le hcb kW.size
           have c0W := (World.cell?_of_block (a := ⟨cb, off + k * 2, none⟩) (gE0.block cb hcbw hnx)).trans c0W
           have c1W := (World.cell?_of_block (a := ⟨cb, off + k * 2 + 1, none⟩) (gE0.block cb hcbw hnx)).trans c1W
           obtain ⟨-, gE, cE, rfl⟩ := owi_form oE
           have hfE : ∀ b o, some (⟨cb, off, none⟩ : Addr) = some ⟨b, o, none⟩ → b ≠ gE := fun b o e => by cases e; rcases bE with bE | bE <;> cases bE; exact hne; exact Nat.ne_of_lt (Nat.lt_of_lt_of_le hcb kW.size))
          | (
           refine AllReadyH.cons (i := 13) (o := ⟨some 5, _, _, _, _, _⟩) rfl (fun K hK => ?_) ?_
           go_simp)
         refine hK.out _ _ ?_ ?_
         ·first | with_reducible exact trivial | ((try dsimp only); exact ⟨c0W, c1W⟩)
         clear hK K hHeld; intro hHeld
         (try simp only [Act.put, List.setIfInBounds_toArray, List.set_cons_zero, List.set_cons_succ]))
       refine wpAnyH_done ?_ ?_ _
       ·decide +kernel
       have kZ := hide kZ
       clear kW hHeld
       go_wp2
       go_roundw
       case measure => simp [intOf]; omega
       case rel => exact ⟨k + 1, _, gE, cE, _, _, by omega, by omega, by go_num, rfl, oE, pE, kZ.out, clE, fun _ => hfE⟩
      ·obtain rfl : k = nD := by omega
       replace ho := hide ho
       replace hq := hide hq
       replace kr := hide kr
       clear hcl hfr
       go_wp2_with fail
       exact ⟨⟨i + 1, N', g3, c3, q3, xs3, by omega, by omega, by go_num, rfl, ho.out, hq.out, kr.out⟩, by simp [intOf]; omega⟩
    ·obtain rfl : i = sn := by omega
     obtain ⟨a', c', he, hns⟩ := owi_ns ho hq
     replace he := hide he
     replace hns := hide hns
     replace kr := hide kr
     clear ho hq
     go_wp2
     refine bodyPost_ret (results_tmp rfl _ _ _) rfl ?_
     have := he.out
     cases this
     exact ⟨_, _, _, _, rfl, hns.out, by omega, kr.out⟩
end Pd
end Go.Proofs.Ytojciccmjpabmaa

namespace Go.Proofs.Ytojciccmjpabmaa
open Go.RowKit
namespace Pd

/-- which of n things a raw number speaks of -/
def pkN (c n : Int) : Nat := ((if c < 0 then -(c + 1) else c) % n).toNat
theorem pkN_lt {c n : Int} (hn : 0 < n) : (pkN c n : Int) < n := by
 unfold pkN
 have h1 := Int.emod_lt_of_pos (if c < 0 then -(c + 1) else c) hn
 have h2 := Int.emod_nonneg (if c < 0 then -(c + 1) else c) (show n ≠ 0 by omega)
 omega
theorem pick_n (c n : Int) (h0 : -9223372036854775808 ≤ c) (h1 : c ≤ 9223372036854775807) (hn0 : 0 < n) (hn1 : n ≤ 9223372036854775807) (w : World) :
  Calls Try.prog 63 #[.int .i64 c, .int .i64 n] w fun e w' => e = .returned (.int .i64 (pkN c n)) ∧ Below w.heap.size w w' := by
 have hne : (n == 0) = false := by rw [beq_eq_false_iff_ne]; omega
 by_cases hc : c < 0
 ·have hr := Int.emod_lt_of_pos (-(c + 1)) hn0
  have hr0 := Int.emod_nonneg (-(c + 1)) (show n ≠ 0 from by omega)
  go_enter Try.func63, Try.ntmps63
  go_wp2
  go_ret
  refine ⟨ret_int ?_, Below.refl _ _⟩
  unfold pkN
  rw [if_pos hc, Int.toNat_of_nonneg hr0, ← Int.tmod_eq_emod_of_nonneg (show 0 ≤ -(c + 1) from by omega), Int.neg_tmod]
 ·have hr := Int.emod_lt_of_pos c hn0
  have hr0 := Int.emod_nonneg c (show n ≠ 0 from by omega)
  go_enter Try.func63, Try.ntmps63
  go_wp2
  go_ret
  refine ⟨ret_int ?_, Below.refl _ _⟩
  unfold pkN
  rw [if_neg (by omega), Int.toNat_of_nonneg hr0]
/-- the set that is wanted, of two -/
def DoR' (m : MkD) (A B : PD) (k : Nat) (err : Int) (D : PD) : Prop :=
 match k with
 | 0 | 1 => err = 0 ∧ D.p = 1 ∧ D.cs = [m.x + 1] ∧ ∀ x, mem D x = decide (m.x < x)
 | 2 | 3 => err = clErr m.d ∧ (err = 0 → D = ⟨m.d.natAbs, [], [adB (List.replicate (wn m.d.natAbs) 0) (m.x % (m.d.natAbs : Int)).toNat]⟩)
 | 4 => err = 0 ∧ D.p = A.p ∧ D.cs = A.cs ∧ ∀ x, mem D x = !mem A x
 | 5 | 6 => err = jErr (Nat.lcm A.p B.p) ∧ (err = 0 → D.p = Nat.lcm A.p B.p ∧ (∀ x, mem D x = (mem A x && mem B x)) ∧ Jx (bits .and .u64) A B D)
 | _ => err = jErr (Nat.lcm A.p B.p) ∧ (err = 0 → D.p = Nat.lcm A.p B.p ∧ (∀ x, mem D x = (mem A x || mem B x)) ∧ Jx (bits .or .u64) A B D)
/-- .. of those that there are -/
def DoR (m : MkD) (Ds : List PD) (err : Int) (D : PD) : Prop := DoR' m (Ds.getD (pkN m.a Ds.length) ⟨1, [], []⟩) (Ds.getD (pkN m.b Ds.length) ⟨1, [], []⟩) (pkN m.k 8) err D
/-- what is answered -/
def DoG (w w' : World) (en : Ending) (m : MkD) (Ds : List PD) (N : Nat) : Prop :=
 Below w.heap.size w w' ∧ ((∃ err D, err ≠ 0 ∧ en = .returned (.tuple #[.pointer none, .int .i64 err]) ∧ DoR m Ds err D) ∨ (∃ b D, en = .returned (.tuple #[.pointer (some ⟨b, 0, none⟩), .int .i64 0]) ∧ PS w' b D ∧ D.cs.length ≤ 2 * N ∧ DoR m Ds 0 D))
set_option maxRecDepth 100000 in
set_option maxHeartbeats 6400000 in
theorem do_n {w : World} {m : MkD} {zk zd : ZV} {la : Option Addr} {ln lc N : Nat} {Ds : List PD} (hk : Zm w zk.s zk.a zk.l zk.c m.x) (hkl : zk.l ≤ 1048576) (hd : Zm w zd.s zd.a zd.l zd.c m.d) (hdl : zd.l ≤ 1048576) (ik : Iw m.k) (ia : Iw m.a) (ib : Iw m.b) (hs : SLs w la ln Ds) (hn1 : 1 ≤ ln) (hn2 : ln ≤ 1000) (hN : 1 ≤ N) (hN2 : N ≤ 65536) (hcs : ∀ D ∈ Ds, D.cs.length ≤ N) :
  Calls Try.prog 29 #[.agg #[.int .i64 m.k, .int .i64 m.a, .int .i64 m.b, .bool zk.s, .slice zk.a zk.l zk.c, .bool zd.s, .slice zd.a zd.l zd.c], .slice la ln lc] w fun e w' => DoG w w' e m Ds N := by
 have b0 := below_alloc w (.cells #[.int .i64 m.k, .int .i64 m.a, .int .i64 m.b, .bool zk.s, .slice zk.a zk.l zk.c, .bool zd.s, .slice zd.a zd.l zd.c] 58)
 have y0 := heap_alloc_new w (.cells #[.int .i64 m.k, .int .i64 m.a, .int .i64 m.b, .bool zk.s, .slice zk.a zk.l zk.c, .bool zd.s, .slice zd.a zd.l zd.c] 58)
 have hsl : Hid (Ds.length = ln) := hide hs.1
 obtain ⟨ha1, ha2⟩ := ia
 obtain ⟨hb1, hb2⟩ := ib
 obtain ⟨hk1, hk2⟩ := ik
 replace hcs := hide hcs
 replace hk := hide (hk.below b0)
 replace hd := hide (hd.below b0)
 replace hs := hide (hs.below b0)
 have hpa := pkN_lt (c := m.a) (n := (ln : Int)) (by omega)
 have hpb := pkN_lt (c := m.b) (n := (ln : Int)) (by omega)
 have hpk := pkN_lt (c := m.k) (n := 8) (by omega)
 obtain ⟨kk, hkk⟩ : ∃ kk, pkN m.k 8 = kk := ⟨_, rfl⟩
 rw [hkk] at hpk
 replace hkk := hide hkk
 obtain ⟨ja, hja⟩ : ∃ ja, pkN m.a (ln : Int) = ja := ⟨_, rfl⟩
 rw [hja] at hpa
 obtain ⟨jb, hjb⟩ : ∃ jb, pkN m.b (ln : Int) = jb := ⟨_, rfl⟩
 rw [hjb] at hpb
 have hjal : ja < Ds.length := by rw [hsl.out]; omega
 have hjbl : jb < Ds.length := by rw [hsl.out]; omega
 have hDR : Hid (∀ err D, DoR m Ds err D ↔ DoR' m Ds[ja] Ds[jb] kk err D) := hide fun err D => by
  unfold DoR
  rw [hsl.out, hja, hjb, hkk.out, List.getD_eq_getElem?_getD, List.getD_eq_getElem?_getD, List.getElem?_eq_getElem hjal, List.getElem?_eq_getElem hjbl]
  rfl
 have hcA := hcs.out _ (List.getElem_mem hjal)
 have hcB := hcs.out _ (List.getElem_mem hjbl)
 obtain ⟨lb, sa, rfl, hlb, l0, hA⟩ := hs.out.get (show ja < ln by omega) hjal
 obtain ⟨lb', sb, e, -, l1, hB⟩ := hs.out.get (show jb < ln by omega) hjbl
 cases e
 generalize Ds[ja] = A at *
 generalize Ds[jb] = B at *
 have q0 := cell_of_row _ _ 0 _ _ (0, 0) y0
 have q1 := cell_of_row _ _ 1 _ _ (0, 0) y0
 have q2 := cell_of_row _ _ 2 _ _ (0, 0) y0
 have q3 := cell_of_row _ _ 3 _ _ (0, 0) y0
 have q4 := cell_of_row _ _ 4 _ _ (0, 0) y0
 have q5 := cell_of_row _ _ 5 _ _ (0, 0) y0
 have q6 := cell_of_row _ _ 6 _ _ (0, 0) y0
 have hbt : w.heap.size < (w.alloc (.cells #[.int .i64 m.k, .int .i64 m.a, .int .i64 m.b, .bool zk.s, .slice zk.a zk.l zk.c, .bool zd.s, .slice zd.a zd.l zd.c] 58)).heap.size := by simp
 replace hA := hide hA
 replace hB := hide hB
 replace b0 := hide b0
 have hca := hide (pick_n m.a ln ha1 ha2 (by omega) (by omega) (w.alloc (.cells #[.int .i64 m.k, .int .i64 m.a, .int .i64 m.b, .bool zk.s, .slice zk.a zk.l zk.c, .bool zd.s, .slice zd.a zd.l zd.c] 58)))
 rw [hja] at hca
 clear y0 hs
 go_enter Try.func29, Try.ntmps29
 go_upto_region 1 with (fail)
 generalize w.alloc (.cells #[.int .i64 m.k, .int .i64 m.a, .int .i64 m.b, .bool zk.s, .slice zk.a zk.l zk.c, .bool zd.s, .slice zd.a zd.l zd.c] 58) = w0 at *
 generalize hbw : w.heap.size = bt at *
 replace hbw := hide hbw
 have haI : (ja : Int) < (ln : Int) := hpa
 go_wp2_with fail
 refine hca.out.mono ?_
 rintro e w1 ⟨rfl, k1⟩
 have kb := hide k1
 have hcb := hide (pick_n m.b ln hb1 hb2 (by omega) (by omega) w1)
 rw [hjb] at hcb
 have q1' := (k1.cell (p := ⟨bt, 1, none⟩) hbt).trans q1
 have q2' := (k1.cell (p := ⟨bt, 2, none⟩) hbt).trans q2
 have l0' := (k1.cell (p := ⟨lb, ja, none⟩) hlb).trans l0
 clear hca k1
 go_wp2_with fail
 have hbI : (jb : Int) < (ln : Int) := hpb
 refine hcb.out.mono ?_
 rintro e w2 ⟨rfl, k2⟩
 have kc := hide (grow_step k2 kb.out)
 have hck := hide (pick_n m.k 8 hk1 hk2 (by decide) (by decide) w2)
 rw [hkk.out] at hck
 have q0' := (kc.out.cell (p := ⟨bt, 0, none⟩) hbt).trans q0
 have l1' := (kc.out.cell (p := ⟨lb, jb, none⟩) hlb).trans l1
 clear hcb k2 q1' q2' l0' q0 q1 q2
 go_wp2_with fail
 refine hck.out.mono ?_
 rintro e w3 ⟨rfl, k3⟩
 have kd := hide (grow_step k3 kc.out)
 have q3' := (kd.out.cell (p := ⟨bt, 3, none⟩) hbt).trans q3
 have q4' := (kd.out.cell (p := ⟨bt, 4, none⟩) hbt).trans q4
 have q5' := (kd.out.cell (p := ⟨bt, 5, none⟩) hbt).trans q5
 have q6' := (kd.out.cell (p := ⟨bt, 6, none⟩) hbt).trans q6
 have hA3 := hide (hA.out.below kd.out)
 have hB3 := hide (hB.out.below kd.out)
 have hk3 := hide (hk.out.below kd.out)
 have hd3 := hide (hd.out.below kd.out)
 clear hck k3 q0' l1' l0 l1 q3 q4 q5 q6
 have hkv : kk = 0 ∨ kk = 1 ∨ kk = 2 ∨ kk = 3 ∨ kk = 4 ∨ kk = 5 ∨ kk = 6 ∨ kk = 7 := by omega
 have kfin := hide (fun (u : World) (ku : Below w3.heap.size w3 u) => (show Below w.heap.size w u by rw [hbw.out]; exact b0.out.trans ((grow_step ku kd.out).mono (Nat.le_of_lt hbt))))
 rcases hkv with rfl | rfl | rfl | rfl | rfl | rfl | rfl | rfl
 ·have hc := hide (above_n hk3.out (by omega))
  go_wp2_with fail
  refine hc.out.mono ?_
  rintro e w4 ⟨b, D, rfl, hps, k4, e1, e2, e3⟩
  have hR := hide ((hDR.out 0 D).2 ⟨rfl, e1, e2, e3⟩)
  have hcl : D.cs.length ≤ 2 * N := by rw [e2]; simp only [List.length_cons, List.length_nil]; omega
  have hps1 := hide hps
  have kf := hide (kfin.out w4 k4)
  clear hc hps kfin q3' q4' q5' q6'
  go_wp2
  exact bodyPost_ret (results_tmp2 rfl _ _ _) rfl ⟨kf.out, .inr ⟨b, D, rfl, hps1.out, hcl, hR.out⟩⟩
 ·have hc := hide (above_n hk3.out (by omega))
  go_wp2_with fail
  refine hc.out.mono ?_
  rintro e w4 ⟨b, D, rfl, hps, k4, e1, e2, e3⟩
  have hR := hide ((hDR.out 0 D).2 ⟨rfl, e1, e2, e3⟩)
  have hcl : D.cs.length ≤ 2 * N := by rw [e2]; simp only [List.length_cons, List.length_nil]; omega
  have hps1 := hide hps
  have kf := hide (kfin.out w4 k4)
  clear hc hps kfin q3' q4' q5' q6'
  go_wp2
  exact bodyPost_ret (results_tmp2 rfl _ _ _) rfl ⟨kf.out, .inr ⟨b, D, rfl, hps1.out, hcl, hR.out⟩⟩
 ·have hc := hide (class_n (z := zd) (y := zk) ⟨hd3.out, by omega⟩ ⟨hk3.out, by omega⟩)
  go_wp2_with fail
  refine hc.out.mono ?_
  rintro e w4 ⟨k4, ⟨he, rfl⟩ | ⟨he, b, D, rfl, hps, e1, e2, e3, e4⟩⟩
  ·have hR := hide ((hDR.out _ A).2 ⟨rfl, fun h => absurd h he⟩)
   have kf := hide (kfin.out w4 k4)
   have he1 := hide he
   clear hc he kfin q3' q4' q5' q6'
   go_wp2
   exact bodyPost_ret (results_tmp2 rfl _ _ _) rfl ⟨kf.out, .inl ⟨_, A, he1.out, rfl, hR.out⟩⟩
  ·have hR := hide ((hDR.out 0 D).2 ⟨he.symm, fun _ => e4⟩)
   have hcl : D.cs.length ≤ 2 * N := by omega
   have hps1 := hide hps
   have kf := hide (kfin.out w4 k4)
   clear hc hps kfin he e1 e2 e3 e4 q3' q4' q5' q6'
   go_wp2
   exact bodyPost_ret (results_tmp2 rfl _ _ _) rfl ⟨kf.out, .inr ⟨b, D, rfl, hps1.out, hcl, hR.out⟩⟩
 ·have hc := hide (class_n (z := zd) (y := zk) ⟨hd3.out, by omega⟩ ⟨hk3.out, by omega⟩)
  go_wp2_with fail
  refine hc.out.mono ?_
  rintro e w4 ⟨k4, ⟨he, rfl⟩ | ⟨he, b, D, rfl, hps, e1, e2, e3, e4⟩⟩
  ·have hR := hide ((hDR.out _ A).2 ⟨rfl, fun h => absurd h he⟩)
   have kf := hide (kfin.out w4 k4)
   have he1 := hide he
   clear hc he kfin q3' q4' q5' q6'
   go_wp2
   exact bodyPost_ret (results_tmp2 rfl _ _ _) rfl ⟨kf.out, .inl ⟨_, A, he1.out, rfl, hR.out⟩⟩
  ·have hR := hide ((hDR.out 0 D).2 ⟨he.symm, fun _ => e4⟩)
   have hcl : D.cs.length ≤ 2 * N := by omega
   have hps1 := hide hps
   have kf := hide (kfin.out w4 k4)
   clear hc hps kfin he e1 e2 e3 e4 q3' q4' q5' q6'
   go_wp2
   exact bodyPost_ret (results_tmp2 rfl _ _ _) rfl ⟨kf.out, .inr ⟨b, D, rfl, hps1.out, hcl, hR.out⟩⟩
 ·have hc := hide (rest_n hA3.out (by omega))
  go_wp2_with fail
  refine hc.out.mono ?_
  rintro e w4 ⟨b, D, rfl, hps, k4, e1, e2, e3⟩
  have hR := hide ((hDR.out 0 D).2 ⟨rfl, e1, e2, e3⟩)
  have hcl : D.cs.length ≤ 2 * N := by rw [e2]; omega
  have hps1 := hide hps
  have kf := hide (kfin.out w4 k4)
  clear hc hps kfin q3' q4' q5' q6'
  go_wp2
  exact bodyPost_ret (results_tmp2 rfl _ _ _) rfl ⟨kf.out, .inr ⟨b, D, rfl, hps1.out, hcl, hR.out⟩⟩
 ·have hc := hide (meet_n hA3.out hB3.out (by omega) (by omega))
  go_wp2_with fail
  refine hc.out.mono ?_
  rintro e w4 ⟨k4, ⟨he, rfl⟩ | ⟨he, b, D, rfl, hps, e1, e2, e3, e4⟩⟩
  ·have hR := hide ((hDR.out _ A).2 ⟨rfl, fun h => absurd h he⟩)
   have kf := hide (kfin.out w4 k4)
   have he1 := hide he
   clear hc he kfin q3' q4' q5' q6'
   go_wp2
   exact bodyPost_ret (results_tmp2 rfl _ _ _) rfl ⟨kf.out, .inl ⟨_, A, he1.out, rfl, hR.out⟩⟩
  ·have hR := hide ((hDR.out 0 D).2 ⟨he.symm, fun _ => ⟨e1, e3, e4⟩⟩)
   have hcl : D.cs.length ≤ 2 * N := by omega
   have hps1 := hide hps
   have kf := hide (kfin.out w4 k4)
   clear hc hps kfin he e1 e2 e3 e4 q3' q4' q5' q6'
   go_wp2
   exact bodyPost_ret (results_tmp2 rfl _ _ _) rfl ⟨kf.out, .inr ⟨b, D, rfl, hps1.out, hcl, hR.out⟩⟩
 ·have hc := hide (meet_n hA3.out hB3.out (by omega) (by omega))
  go_wp2_with fail
  refine hc.out.mono ?_
  rintro e w4 ⟨k4, ⟨he, rfl⟩ | ⟨he, b, D, rfl, hps, e1, e2, e3, e4⟩⟩
  ·have hR := hide ((hDR.out _ A).2 ⟨rfl, fun h => absurd h he⟩)
   have kf := hide (kfin.out w4 k4)
   have he1 := hide he
   clear hc he kfin q3' q4' q5' q6'
   go_wp2
   exact bodyPost_ret (results_tmp2 rfl _ _ _) rfl ⟨kf.out, .inl ⟨_, A, he1.out, rfl, hR.out⟩⟩
  ·have hR := hide ((hDR.out 0 D).2 ⟨he.symm, fun _ => ⟨e1, e3, e4⟩⟩)
   have hcl : D.cs.length ≤ 2 * N := by omega
   have hps1 := hide hps
   have kf := hide (kfin.out w4 k4)
   clear hc hps kfin he e1 e2 e3 e4 q3' q4' q5' q6'
   go_wp2
   exact bodyPost_ret (results_tmp2 rfl _ _ _) rfl ⟨kf.out, .inr ⟨b, D, rfl, hps1.out, hcl, hR.out⟩⟩
 ·have hc := hide (join_n hA3.out hB3.out (by omega) (by omega))
  go_wp2_with fail
  refine hc.out.mono ?_
  rintro e w4 ⟨k4, ⟨he, rfl⟩ | ⟨he, b, D, rfl, hps, e1, e2, e3, e4⟩⟩
  ·have hR := hide ((hDR.out _ A).2 ⟨rfl, fun h => absurd h he⟩)
   have kf := hide (kfin.out w4 k4)
   have he1 := hide he
   clear hc he kfin q3' q4' q5' q6'
   go_wp2
   exact bodyPost_ret (results_tmp2 rfl _ _ _) rfl ⟨kf.out, .inl ⟨_, A, he1.out, rfl, hR.out⟩⟩
  ·have hR := hide ((hDR.out 0 D).2 ⟨he.symm, fun _ => ⟨e1, e3, e4⟩⟩)
   have hcl : D.cs.length ≤ 2 * N := by omega
   have hps1 := hide hps
   have kf := hide (kfin.out w4 k4)
   clear hc hps kfin he e1 e2 e3 e4 q3' q4' q5' q6'
   go_wp2
   exact bodyPost_ret (results_tmp2 rfl _ _ _) rfl ⟨kf.out, .inr ⟨b, D, rfl, hps1.out, hcl, hR.out⟩⟩
end Pd
end Go.Proofs.Ytojciccmjpabmaa

namespace Go.Proofs.Ytojciccmjpabmaa
open Go.RowKit
namespace Pd

/-- none -/
def NoneD (D : PD) : Prop := D.p = 1 ∧ D.cs = [] ∧ ∀ x, mem D x = false
/-- so many of the wanted sets made -/
def Blt (R : List MkD) : Nat → List PD → Prop
 | 0, Ds => ∃ D, Ds = [D] ∧ NoneD D
 | i + 1, Ds => ∃ Ds0, Blt R i Ds0 ∧ ((∃ err D, err ≠ 0 ∧ DoR (R.getD i ⟨0, 0, 0, 0, 0⟩) Ds0 err D ∧ Ds = Ds0) ∨ ∃ D, DoR (R.getD i ⟨0, 0, 0, 0, 0⟩) Ds0 0 D ∧ Ds = Ds0 ++ [D])
theorem MLs.get {w : World} {ad : Option Addr} {n : Nat} {R : List MkD} (h : MLs w ad n R) {i : Nat} (hi : i < n) : ∃ b off zk zd, ad = some ⟨b, off, none⟩ ∧ b < w.heap.size ∧ MKc w b (off + i * 7) (R.getD i ⟨0, 0, 0, 0, 0⟩) zk zd := by
 obtain ⟨hl, h0 | ⟨b, off, e, hb, hc⟩⟩ := h
 ·omega
 ·obtain ⟨zk, zd, h1⟩ := hc i (by omega)
  refine ⟨b, off, zk, zd, e, hb, ?_⟩
  rw [List.getD_eq_getElem?_getD, List.getElem?_eq_getElem (by omega)]
  exact h1
theorem onep_src {w : World} {b : Nat} : ∀ j u, (encL encp [b])[j]? = some u → (w.alloc (.cells #[.pointer (some ⟨b, 0, none⟩)] 27)).cell? ((⟨w.heap.size, 0, none⟩ : Addr).add j) = some u := fun j u hu => by
 rw [Addr.add_lit, Nat.zero_add, cell_of_row _ _ _ _ _ (0, 0) (heap_alloc_new w _)]
 simpa [encL, encp] using hu
theorem owp_form {w : World} {base n : Nat} {v : Value} {q : List Nat} (h : OwP w base v n q) : q.length = n ∧ ∃ g c, v = .slice (some ⟨g, 0, none⟩) n c := by
 obtain ⟨h1, g, c, rfl, -⟩ := h.any (by decide) encp_len
 exact ⟨h1, g, c, rfl⟩
theorem owp_step {w0 w w' : World} {base n : Nat} {v : Value} {q : List Nat} (h : OwP w base v n q) (hg : w.grownBy w' v.ownBlock) (k : Below base w0 w) (hb : base ≤ w.heap.size) : Below base w0 w' := by
 obtain ⟨-, g, c, -, -, -, h1, -, h2, -⟩ := h.any (by decide) encp_len
 exact below_grown k hg (fun g' e => by rw [h2] at e; cases e; exact h1) hb
/-- the last one of a list of one's own -/
theorem owp_last {w : World} {base n g c : Nat} {q : List Nat} (h : OwP w base (.slice (some ⟨g, 0, none⟩) n c) n q) (hn : 1 ≤ n) : ∃ b, w.cell? ⟨g, n - 1, none⟩ = some (.pointer (some ⟨b, 0, none⟩)) := by
 obtain ⟨h1, g', c', e, -, -, -, -, -, hc⟩ := h.any (by decide) encp_len
 cases e
 have := hc (n - 1) (by omega) 0 (by decide)
 rw [Nat.mul_one, Nat.add_zero] at this
 exact ⟨_, this⟩
theorem pow_two_le {i : Nat} (h : i ≤ 12) : 1 ≤ 2 ^ i ∧ 2 ^ i ≤ 4096 := ⟨Nat.one_le_two_pow, Nat.pow_le_pow_right (by decide) h⟩
set_option maxRecDepth 100000 in
set_option maxHeartbeats 6400000 in
theorem sets_n {w : World} {la : Option Addr} {ln lc : Nat} {R : List MkD} (hR : MLs w la ln R) (hn : ln ≤ 1048576) :
  Calls Try.prog 7 #[.slice la ln lc] w fun e w' => ∃ a n c Ds, e = .returned (.slice a n c) ∧ a ≠ none ∧ SLs w' a n Ds ∧ 1 ≤ n ∧ n ≤ 13 ∧ (∀ D ∈ Ds, D.cs.length ≤ 4096) ∧ Blt R (min ln 12) Ds ∧ Below w.heap.size w w' := by
 have hno := hide (none_n w)
 replace hR := hide hR
 go_enter Try.func7, Try.ntmps7
 go_wp2_with fail
 refine hno.out.mono ?_
 rintro e w1 ⟨b0, D0, rfl, hps, k1, hm, hp, hc⟩
 have b1 := below_alloc w1 (.cells #[.pointer (some ⟨b0, 0, none⟩)] 27)
 have o1 := hide (owz_lit (enc := encp) (zc := (Value.pointer none).cells) (e := 27) encp_len w1 [b0] 1 rfl (by decide) #[.pointer (some ⟨b0, 0, none⟩)] rfl)
 have p1 := hide (pp_one (hps.below b1))
 have k2 := hide (grow_step b1 k1)
 have hB : Hid (Blt R 0 [D0]) := hide ⟨D0, rfl, hp, hc, hm⟩
 have hcs : Hid (∀ D ∈ [D0], D.cs.length ≤ 2 ^ 0) := hide fun D h => by rw [List.mem_singleton.1 h, hc]; exact Nat.zero_le _
 have hob : Hid (OwP _ w.heap.size _ 1 [b0]) := hide ⟨⟨o1.out.own.1, .inr ⟨w1.heap.size, 1, _, rfl, k1.size, heap_alloc_new w1 _, by decide, by decide, rfl, rfl⟩⟩, o1.out.sp, o1.out.ne⟩
 clear hno b1 hps k1 hm hp hc o1
 go_wp2_with fail
 go_loopw [3, 4] (fun vo vi wr => ∃ (i n g c : Nat) (q : List Nat) (Ds : List PD), i ≤ 12 ∧ i ≤ ln ∧ vi = .int .i64 i ∧ vo = .slice (some ⟨g, 0, none⟩) n c ∧ OwP wr w.heap.size (.slice (some ⟨g, 0, none⟩) n c) n q ∧ Pp wr q Ds ∧ 1 ≤ n ∧ n ≤ i + 1 ∧ (∀ D ∈ Ds, D.cs.length ≤ 2 ^ i) ∧ Blt R i Ds ∧ Below w.heap.size w wr) (fun _ vi _ => 12 - (intOf vi).toNat)
 case atStart => exact ⟨0, 1, _, _, [b0], [D0], by decide, Nat.zero_le _, rfl, rfl, hob.out, p1.out, by decide, by decide, hcs.out, hB.out, k2.out⟩
 case round =>
  clear hob p1 hcs hB k2
  obtain ⟨i, n, g, c, q, Ds, hi12, hil, rfl, rfl, ho, hp, hn1, hni, hcs, hbl2, kr⟩ := hrel
  by_cases hil2 : i < ln
  ·by_cases hi2 : i < 12
   ·obtain ⟨m, rfl⟩ : ∃ m, n = m + 1 := ⟨n - 1, by omega⟩
    obtain ⟨bl, hbl⟩ := owp_last ho hn1
    rw [Nat.add_sub_cancel] at hbl
    obtain ⟨a', c', he, hsl⟩ := owp_sl ho hp
    cases he
    obtain ⟨mb, mo, zk, zd, rfl, hmb, mc⟩ := (hR.out.below kr).get hil2
    obtain ⟨x, hx⟩ : ∃ x, R.getD i ⟨0, 0, 0, 0, 0⟩ = x := ⟨_, rfl⟩
    rw [hx] at mc
    have hpw := pow_two_le hi12
    have hdo := hide (do_n (lc := c) (N := 2 ^ i) mc.nk mc.kl mc.nd mc.dl mc.ik mc.ia mc.ib hsl hn1 (by omega) hpw.1 (by omega) hcs)
    have e0 := mc.c0
    have e1 := mc.c1
    have e2 := mc.c2
    have e3 := mc.c3
    have e4 := mc.c4
    have e5 := mc.c5
    have e6 := mc.c6
    replace hx := hide hx
    replace ho := hide ho
    replace hp := hide hp
    replace hcs := hide hcs
    replace hbl2 := hide hbl2
    replace kr := hide kr
    clear hsl mc hpw
    go_wp2_with fail
    refine hdo.out.mono ?_
    rintro e w4 ⟨k4, ⟨err, D, he, rfl, hdr⟩ | ⟨b, D, rfl, hps, hcl, hdr⟩⟩
    ·have hne : (err == 0) = false := by rw [beq_eq_false_iff_ne]; exact he
     have hb5 : Hid (Blt R (i + 1) Ds) := hide ⟨Ds, hbl2.out, .inl ⟨err, D, he, by rw [hx.out]; exact hdr, rfl⟩⟩
     have hc5 : Hid (∀ D ∈ Ds, D.cs.length ≤ 2 ^ (i + 1)) := hide fun D h => Nat.le_trans (hcs.out D h) (Nat.pow_le_pow_right (by decide) (Nat.le_succ i))
     have ho5 := hide (ho.out.below k4)
     have hp5 := hide (hp.out.below k4)
     have k5 := hide (grow_step k4 kr.out)
     clear hdo he hdr k4 hbl e0 e1 e2 e3 e4 e5 e6 ho hp hcs hbl2 kr hx
     go_wp2
     go_roundw
     case measure => simp [intOf]; omega
     case rel => exact ⟨i + 1, m + 1, g, _, q, Ds, by omega, by omega, by go_num, rfl, ho5.out, hp5.out, hn1, by omega, hc5.out, hb5.out, k5.out⟩
    ·have hb5 : Hid (Blt R (i + 1) (Ds ++ [D])) := hide ⟨Ds, hbl2.out, .inr ⟨D, by rw [hx.out]; exact hdr, rfl⟩⟩
     have hc5 : Hid (∀ E ∈ Ds ++ [D], E.cs.length ≤ 2 ^ (i + 1)) := hide fun E h => by
      rcases List.mem_append.1 h with h | h
      ·exact Nat.le_trans (hcs.out E h) (Nat.pow_le_pow_right (by decide) (Nat.le_succ i))
      ·rw [List.mem_singleton.1 h, Nat.pow_succ, Nat.mul_comm]; exact hcl
     have b5 := below_alloc w4 (.cells #[.pointer (some ⟨b, 0, none⟩)] 27)
     have ho5 := hide ((ho.out.below k4).below b5)
     have hp5 := hide (((hp.out.below k4).app (pp_one hps)).below b5)
     have k5 := hide (grow_step b5 (grow_step k4 kr.out))
     have s5 := hide (onep_src (w := w4) (b := b))
     clear hdo hdr k4 hbl e0 e1 e2 e3 e4 e5 e6 ho hp hcs hbl2 kr hx b5 hps hcl
     go_wp2_with (refine appz_wp (m := 1) Try.underlying24 infoP rfl (by decide) (by decide) encp_len encp_one rfl _ _ rfl rfl ho5.out [b] rfl (.inr ⟨_, _, rfl, s5.out⟩) (by omega) k5.out.size ?_)
     intro v6 w6 o6 g6 _
     have k6 := hide (owp_step ho5.out g6 k5.out k5.out.size)
     have p6 := hide (hp5.out.grown ho5.out g6)
     obtain ⟨-, g', c', rfl⟩ := owp_form o6
     replace o6 := hide o6
     clear ho5 hp5 k5 s5 g6
     go_wp2
     go_roundw
     case measure => simp [intOf]; omega
     case rel => exact ⟨i + 1, m + 1 + 1, g', c', _, _, by omega, by omega, by go_num, rfl, o6.out, p6.out, by omega, by omega, hc5.out, hb5.out, k6.out⟩
   ·have hi2' : i = 12 := by omega
    obtain ⟨m, rfl⟩ : ∃ m, n = m + 1 := ⟨n - 1, by omega⟩
    obtain ⟨bl, hbl⟩ := owp_last ho hn1
    rw [Nat.add_sub_cancel] at hbl
    obtain ⟨a', c', he, hsl⟩ := owp_sl ho hp
    cases he
    have hsl1 := hide hsl
    have hk1 := hide kr
    have hbt : Hid (Blt R (min ln 12) Ds) := hide (by rw [show min ln 12 = i by omega]; exact hbl2)
    have hc1 : Hid (∀ D ∈ Ds, D.cs.length ≤ 4096) := hide fun D h => Nat.le_trans (hcs D h) (pow_two_le hi12).2
    clear ho hp hsl hcs hbl2 kr
    go_wp2
    exact bodyPost_ret (results_tmp rfl _ _ _) rfl ⟨_, _, _, Ds, rfl, (fun h => by cases h), hsl1.out, hn1, by omega, hc1.out, hbt.out, hk1.out⟩
  ·have hi2' : i = ln := by omega
   obtain ⟨m, rfl⟩ : ∃ m, n = m + 1 := ⟨n - 1, by omega⟩
   obtain ⟨bl, hbl⟩ := owp_last ho hn1
   rw [Nat.add_sub_cancel] at hbl
   obtain ⟨a', c', he, hsl⟩ := owp_sl ho hp
   cases he
   have hsl1 := hide hsl
   have hk1 := hide kr
   have hbt : Hid (Blt R (min ln 12) Ds) := hide (by rw [show min ln 12 = i by omega]; exact hbl2)
   have hc1 : Hid (∀ D ∈ Ds, D.cs.length ≤ 4096) := hide fun D h => Nat.le_trans (hcs D h) (pow_two_le hi12).2
   clear ho hp hsl hcs hbl2 kr
   go_wp2
   exact bodyPost_ret (results_tmp rfl _ _ _) rfl ⟨_, _, _, Ds, rfl, (fun h => by cases h), hsl1.out, hn1, by omega, hc1.out, hbt.out, hk1.out⟩
end Pd
end Go.Proofs.Ytojciccmjpabmaa

namespace Go.Proofs.Ytojciccmjpabmaa
open Go.RowKit
namespace Pd

set_option maxRecDepth 100000 in
set_option maxHeartbeats 3200000 in
theorem ints_t {s : Bool} {a1 a2 : Option Addr} {l c1 c2 : Nat} {zs : List Int} {w : World} (h1 : Rd w a1 l c1 zs) (h2 : Rd w a2 l c2 zs) :
  Calls Try.prog 32 #[.agg #[.bool s, .slice a1 l c1], .agg #[.bool s, .slice a2 l c2]] w fun e w' => e = .returned (.bool true) ∧ Below w.heap.size w w' := by
 have hll := h1.2.1
 have hlc := h1.2.2.1
 have hss : (s != s) = false := by simp
 have hnn : ((l : Int) != (l : Int)) = false := by simp
 go_enter Try.func32, Try.ntmps32
 go_wp2_with fail
 have b0 : Below w.heap.size w ((w.alloc (.cells #[.bool s, .slice a1 l c1] 36)).alloc (.cells #[.bool s, .slice a2 l c2] 36)) := below_alloc' (below_alloc _ _) _
 have y1 := Bk.below (heap_alloc_new w (.cells #[.bool s, .slice a1 l c1] 36)) (below_alloc _ (.cells #[.bool s, .slice a2 l c2] 36))
 have y2 : ((w.alloc (.cells #[.bool s, .slice a1 l c1] 36)).alloc (.cells #[.bool s, .slice a2 l c2] 36)).heap[w.heap.size + 1]? = some (.cells #[.bool s, .slice a2 l c2] 36 (0, 0)) := by
  have := heap_alloc_new (w.alloc (.cells #[.bool s, .slice a1 l c1] 36)) (.cells #[.bool s, .slice a2 l c2] 36)
  simpa using this
 replace h1 := h1.below b0
 replace h2 := h2.below b0
 generalize (w.alloc (.cells #[.bool s, .slice a1 l c1] 36)).alloc (.cells #[.bool s, .slice a2 l c2] 36) = wb at *
 have p0 := cell_of_row wb _ 0 _ _ (0, 0) y1
 have p1 := cell_of_row wb _ 1 _ _ (0, 0) y1
 have q0 := cell_of_row wb _ 0 _ _ (0, 0) y2
 have q1 := cell_of_row wb _ 1 _ _ (0, 0) y2
 go_loopw [5] (fun i wr => ∃ (k n : Nat), k ≤ l ∧ i = .int .i64 k ∧ wr = wb.drewN n) (fun i _ => l - (intOf i).toNat)
 case atStart => exact ⟨0, 0, Nat.zero_le _, rfl, rfl⟩
 case round =>
  obtain ⟨k, n, hk, rfl, rfl⟩ := hrel
  by_cases hkl : k < l
  ·obtain ⟨_, _, _, hL, ⟨rfl, e, _⟩ | ⟨x1, rfl, e | ⟨b1, o1, rfl, hb1, hc1⟩⟩⟩ := h1
   ·omega
   ·omega
   obtain ⟨_, _, _, _, ⟨rfl, e, _⟩ | ⟨x2, rfl, e | ⟨b2, o2, rfl, hb2, hc2⟩⟩⟩ := h2
   ·omega
   ·omega
   have u1 := hc1 k hkl
   have u2 := hc2 k hkl
   have hbd := lz_bd hL k
   clear hc1 hc2
   generalize lz zs k = z at *
   go_wp2_with fail
   go_quiet (fail)
   go_wp2_with fail
   exact ⟨⟨k + 1, n + nq, by omega, by go_num, rfl⟩, by simp [intOf]; omega⟩
  ·obtain rfl : k = l := by omega
   go_wp2_with fail
   go_ret
   exact ⟨rfl, b0.trans (below_drewN _ _ _)⟩
/-- two numbers that stand and are the same -/
theorem ints_zn {z y : ZV} {x : Int} {w : World} (h1 : Zn w z.s z.a z.l z.c x) (h2 : Zn w y.s y.a y.l y.c x) : Calls Try.prog 32 #[.agg #[.bool z.s, .slice z.a z.l z.c], .agg #[.bool y.s, .slice y.a y.l y.c]] w fun e w' => e = .returned (.bool true) ∧ Below w.heap.size w w' := by
 obtain ⟨hs, hl⟩ := zn_same h1 h2
 obtain ⟨n, ⟨zs, hr, hc, hv⟩, hx, -⟩ := h1
 obtain ⟨n', ⟨zs', hr', hc', hv'⟩, hx', -⟩ := h2
 have b1 := val_nonneg hr.2.2.2.1
 have b2 := val_nonneg hr'.2.2.2.1
 have e : n = n' := by
  rw [hx] at hx'
  unfold sg at hx'
  split at hx' <;> split at hx' <;> omega
 subst e
 have := canon_inj hc hc' (hv.trans hv'.symm)
 subst this
 obtain ⟨s, a, l, c⟩ := z
 obtain ⟨s', a', l', c'⟩ := y
 dsimp only at hs hl hr hr'
 subst hs hl
 exact ints_t hr hr'
/-- without cuts what is in a set comes again with its period -/
theorem mem_nocut {D : PD} (h : D.cs = []) (x : Int) : mem D (x + D.p) = mem D x := by
 unfold mem
 rw [h, show plc [] (x + D.p) = plc [] x from rfl, Int.add_emod_right]
/-- a set is the same as itself -/
theorem same_t {w : World} {b : Nat} {D : PD} (h : PS w b D) (hf : D.cs.length ≤ 536869999) : Calls Try.prog 20 #[.pointer (some ⟨b, 0, none⟩), .pointer (some ⟨b, 0, none⟩)] w fun e w' => e = .returned (.bool true) ∧ Below w.heap.size w w' :=
 (same_n h h hf hf).mono fun _ _ ⟨_, h1, h2, h3⟩ => ⟨by rw [h1, h3.2 fun _ => rfl], h2⟩
theorem period_b {w : World} {b : Nat} {D : PD} (h : PS w b D) : Calls Try.prog 15 #[.pointer (some ⟨b, 0, none⟩)] w fun e w' => e = .returned (.int .i64 D.p) ∧ Below w.heap.size w w' := (period_n h).mono fun _ _ ⟨h1, h2⟩ => ⟨h1, by rw [h2]; exact Below.refl _ _⟩
theorem known_cs {A B D : PD} (hD : Wf D) (a1 : A.p = 1) (a2 : A.cs = [3 + 1]) (a3 : ∀ x, mem A x = decide (3 < x)) (b1 : B.p = 4) (b2 : B.cs = []) (b3 : ∀ x, mem B x = decide (x % 4 = -3 % 4)) (d1 : D.p = Nat.lcm A.p B.p) (d3 : ∀ x, mem D x = (mem A x && mem B x)) (hj : ∀ c ∈ D.cs, c ∈ A.cs ∨ c ∈ B.cs) : D.p = 4 ∧ D.cs = [4] ∧ mem D 5 = true ∧ mem D 1 = false ∧ mem D 6 = false := by
 have hp : D.p = 4 := by rw [d1, a1, b1]; rfl
 have m5 : mem D 5 = true := by rw [d3, a3, b3]; rfl
 have m1 : mem D 1 = false := by rw [d3, a3, b3]; rfl
 have m6 : mem D 6 = false := by rw [d3, a3, b3]; rfl
 refine ⟨hp, ?_, m5, m1, m6⟩
 have hc : ∀ c ∈ D.cs, c = 4 := fun c h => by
  rcases hj c h with h | h
  ·rw [a2] at h
   simpa using h
  ·rw [b2] at h; cases h
 have hu := hD.up
 match hcs : D.cs with
 | [] =>
  have := mem_nocut hcs 1
  rw [hp] at this
  rw [show (1 : Int) + (4 : Nat) = 5 from rfl, m5, m1] at this
  cases this
 | [c] =>
  rw [hcs] at hc
  rw [hc c (by simp)]
 | c :: d :: r =>
  rw [hcs] at hc hu
  have e1 := hc c (by simp)
  have e2 := hc d (by simp)
  have := (List.pairwise_cons.1 hu).1 d (by simp)
  omega
set_option maxRecDepth 100000 in
set_option maxHeartbeats 6400000 in
theorem known_n (w : World) : Calls Try.prog 8 #[] w fun e w' => e = .returned (.bool true) ∧ Below w.heap.size w w' := by
 have h3 := fun u : World => hide (rof_n 3 (by decide) (by decide) u)
 have h4 := fun u : World => hide (rof_n 4 (by decide) (by decide) u)
 have h5 := fun u : World => hide (rof_n (-3) (by decide) (by decide) u)
 go_enter Try.func8, Try.ntmps8
 go_wp2_with fail
 refine (h3 _).out.mono ?_
 rintro e w1 ⟨s1, a1, l1, c1, rfl, z1, k1, hl1⟩
 have hab := hide (above_n z1.zm (by omega))
 clear h3
 go_wp2_with fail
 refine hab.out.mono ?_
 rintro e w2 ⟨bA, A, rfl, pA, k2, eA1, eA2, eA3⟩
 clear hab
 replace k2 := hide (grow_step k2 k1)
 replace pA := hide pA
 replace eA1 := hide eA1
 replace eA2 := hide eA2
 replace eA3 := hide eA3
 clear z1 k1
 go_wp2_with fail
 refine (h4 _).out.mono ?_
 rintro e w3 ⟨s3, a3, l3, c3, rfl, z3, k3, hl3⟩
 go_wp2_with fail
 refine (h5 _).out.mono ?_
 rintro e w4 ⟨s4, a4, l4, c4, rfl, z4, k4, hl4⟩
 have hcl := hide (class_n (z := ⟨s3, a3, l3, c3⟩) (y := ⟨s4, a4, l4, c4⟩) ⟨z3.zm.below k4, by show l3 ≤ _; omega⟩ ⟨z4.zm, by show l4 ≤ _; omega⟩)
 replace k4 := hide (grow_step k4 k3)
 clear z3 z4 k3 h5
 go_wp2_with fail
 refine hcl.out.mono ?_
 rintro e w5 ⟨k5, ⟨he, -⟩ | ⟨-, bB, B, rfl, pB, eB1, -, eB3, eB4⟩⟩
 ·exact absurd (by decide) he
 have hA5 := hide ((pA.out.below k4.out).below k5)
 have k6 := hide (grow_step k5 (grow_step k4.out k2.out))
 have hwB : B.cs = [] := by rw [eB4]
 have hme := hide (meet_n hA5.out pB (by rw [eA2.out]; decide) (by rw [hwB]; decide))
 replace eB1 := hide eB1
 replace eB3 := hide eB3
 replace hwB := hide hwB
 clear hcl k5 pB pA k2 k4 eB4
 go_wp2_with fail
 refine hme.out.mono ?_
 rintro e w7 ⟨k7, ⟨he, -⟩ | ⟨-, bD, D, rfl, pD, eD1, eD2, eD3, eD4⟩⟩
 ·exact absurd (by rw [eA1.out, eB1.out]; decide) he
 obtain ⟨d1, d2, d3, d4, d5⟩ := known_cs pD.wf eA1.out eA2.out eA3.out (by rw [eB1.out]; rfl) hwB.out eB3.out eD1 eD3 eD4.cut
 have hct := hide (cuts_n pD (by rw [d2]; decide))
 rw [d2] at hct
 replace k7 := hide (grow_step k7 k6.out)
 replace pD := hide pD
 replace d3 := hide d3
 replace d4 := hide d4
 replace d5 := hide d5
 replace d1 := hide d1
 replace d2 := hide d2
 clear hme k6 hA5 eD1 eD2 eD3 eD4 eA1 eA2 eA3 eB1 eB3 hwB
 go_wp2_with fail
 refine hct.out.mono ?_
 rintro e w8 ⟨ca, cc, rfl, hcl, k8, -⟩
 obtain ⟨cb, off, zc, rfl, hcb, e0, e1, hzc⟩ := hcl.get (i := 0) (by decide) (by decide)
 rw [Nat.zero_mul, Nat.add_zero] at e0 e1
 have p8 := hide (pD.out.below k8)
 replace k8 := hide (grow_step k8 k7.out)
 replace hzc : Hid (Zf w8 zc 4) := hide hzc
 clear hct hcl
 go_upto_region 9 with (fail)
 refine wp_region_held_drew (S := (fun w' => w'.cell? ⟨cb, off, none⟩ = some (.bool zc.s) ∧ w'.cell? ⟨cb, off + 1, none⟩ = some (.slice zc.a zc.l zc.c))) (by kernel_rfl) (⟨(Below.cell (p := ⟨cb, _, none⟩) (grow_drew (Below.refl _ _)) hcb).trans e0, (Below.cell (p := ⟨cb, _, none⟩) (grow_drew (Below.refl _ _)) hcb).trans e1⟩) (fun hHeld => ?_)
 show wpAnyH _ _ _ _ _ 38 _ _ _
 have kW := grow_drew (Below.refl w8.heap.size w8)
 generalize w8.drew = wQ at *
 refine wpAnyH_take (i := 0) (oi := ⟨some 39, _, _, _, _, _⟩) (v := ?_) rfl (by decide +kernel) (by decide +kernel) (by decide +kernel) (fun _ _ _ h => h) (Or.inl ⟨by rfl, ?_⟩) (by assumption) ?_
 rotate_left
 ·intro wq hSw; (try dsimp only at hSw); go_simp; (try with_reducible rfl)
 (try simp only [Act.put, List.setIfInBounds_toArray, List.set_cons_zero, List.set_cons_succ])
 refine wpAnyH_ready (rs := [1]) (by decide +kernel) (by simp) ?_
 refine AllReadyH.cons (i := 1) (o := ⟨some 40, _, _, _, _, _⟩) rfl (fun K hK => ?_) AllReadyH.nil
 go_simp
 go_at_call 15; refine Calls.mono (period_b (p8.out.below kW)) ?_; rintro e wP ⟨rfl, kP⟩; rw [d1.out]
 have kW := grow_step kP kW
 try go_wp2_with fail
 refine hK.out _ _ ?_ ?_
 ·first | with_reducible exact trivial | ((try dsimp only); exact ⟨(Below.cell (p := ⟨cb, _, none⟩) kW hcb).trans e0, (Below.cell (p := ⟨cb, _, none⟩) kW hcb).trans e1⟩)
 clear hK K hHeld; intro hHeld
 (try simp only [Act.put, List.setIfInBounds_toArray, List.set_cons_zero, List.set_cons_succ])
 refine wpAnyH_take (i := 2) (oi := ⟨some 41, _, _, _, _, _⟩) (v := ?_) rfl (by decide +kernel) (by decide +kernel) (by decide +kernel) (fun _ _ _ h => h) (Or.inl ⟨by rfl, ?_⟩) (by assumption) ?_
 rotate_left
 ·intro wq hSw; (try dsimp only at hSw); go_simp; (try with_reducible rfl)
 (try simp only [Act.put, List.setIfInBounds_toArray, List.set_cons_zero, List.set_cons_succ])
 refine wpAnyH_take (i := 3) (oi := ⟨some 42, _, _, _, _, _⟩) (v := ?_) rfl (by decide +kernel) (by decide +kernel) (by decide +kernel) (fun _ _ _ h => h) (Or.inl ⟨by rfl, ?_⟩) (by assumption) ?_
 rotate_left
 ·intro wq hSw; (try dsimp only at hSw); go_simp; (try with_reducible rfl)
 (try simp only [Act.put, List.setIfInBounds_toArray, List.set_cons_zero, List.set_cons_succ])
 refine wpAnyH_take (i := 4) (oi := ⟨some 43, _, _, _, _, _⟩) (v := ?_) rfl (by decide +kernel) (by decide +kernel) (by decide +kernel) (fun _ _ _ h => h) (Or.inl ⟨by rfl, ?_⟩) (by assumption) ?_
 rotate_left
 ·intro wq hSw; (try dsimp only at hSw); go_simp; (try with_reducible rfl)
 (try simp only [Act.put, List.setIfInBounds_toArray, List.set_cons_zero, List.set_cons_succ])
 refine wpAnyH_take (i := 5) (oi := ⟨some 44, _, _, _, _, _⟩) (v := ?_) rfl (by decide +kernel) (by decide +kernel) (by decide +kernel) (fun _ _ _ h => h) (Or.inl ⟨by rfl, ?_⟩) (by assumption) ?_
 rotate_left
 ·intro wq hSw; (try dsimp only at hSw); go_simp; (try with_reducible rfl)
 (try simp only [Act.put, List.setIfInBounds_toArray, List.set_cons_zero, List.set_cons_succ])
 refine wpAnyH_take (i := 6) (oi := ⟨some 45, _, _, _, _, _⟩) (v := ?_) rfl (by decide +kernel) (by decide +kernel) (by decide +kernel) (fun _ _ _ h => h) (Or.inl ⟨by rfl, ?_⟩) (by assumption) ?_
 rotate_left
 ·intro wq hSw; (try dsimp only at hSw); go_simp; (try with_reducible rfl)
 (try simp only [Act.put, List.setIfInBounds_toArray, List.set_cons_zero, List.set_cons_succ])
 refine wpAnyH_take (i := 7) (oi := ⟨some 46, _, _, _, _, _⟩) (v := ?_) rfl (by decide +kernel) (by decide +kernel) (by decide +kernel) (fun _ _ _ h => h) (Or.inl ⟨by rfl, ?_⟩) (by assumption) ?_
 rotate_left
 ·intro wq hSw; (try dsimp only at hSw); go_simp; (try with_reducible rfl)
 (try simp only [Act.put, List.setIfInBounds_toArray, List.set_cons_zero, List.set_cons_succ])
 refine wpAnyH_take (i := 8) (oi := ⟨some 47, _, _, _, _, _⟩) (v := ?_) rfl (by decide +kernel) (by decide +kernel) (by decide +kernel) (fun _ _ _ h => h) (Or.inl ⟨by rfl, ?_⟩) (by assumption) ?_
 rotate_left
 ·intro wq hSw; (try dsimp only at hSw); go_simp; (try with_reducible rfl)
 (try simp only [Act.put, List.setIfInBounds_toArray, List.set_cons_zero, List.set_cons_succ])
 refine wpAnyH_take (i := 9) (oi := ⟨some 48, _, _, _, _, _⟩) (v := ?_) rfl (by decide +kernel) (by decide +kernel) (by decide +kernel) (fun _ _ _ h => h) (Or.inl ⟨by rfl, ?_⟩) (by assumption) ?_
 rotate_left
 ·intro wq hSw; (try dsimp only at hSw); go_simp; (try with_reducible rfl)
 (try simp only [Act.put, List.setIfInBounds_toArray, List.set_cons_zero, List.set_cons_succ])
 refine wpAnyH_take (i := 10) (oi := ⟨some 49, _, _, _, _, _⟩) (v := ?_) rfl (by decide +kernel) (by decide +kernel) (by decide +kernel) (fun _ _ _ h => h) (Or.inl ⟨by rfl, ?_⟩) (by assumption) ?_
 rotate_left
 ·intro wq hSw; (try dsimp only at hSw); go_simp; (try with_reducible rfl)
 (try simp only [Act.put, List.setIfInBounds_toArray, List.set_cons_zero, List.set_cons_succ])
 refine wpAnyH_take (i := 11) (oi := ⟨some 50, _, _, _, _, _⟩) (v := ?_) rfl (by decide +kernel) (by decide +kernel) (by decide +kernel) (fun _ _ _ h => h) (Or.inl ⟨by rfl, ?_⟩) (by assumption) ?_
 rotate_left
 ·intro wq hSw; (try dsimp only at hSw); go_simp; (try with_reducible rfl)
 (try simp only [Act.put, List.setIfInBounds_toArray, List.set_cons_zero, List.set_cons_succ])
 refine wpAnyH_ready (rs := [12]) (by decide +kernel) (by simp) ?_
 refine AllReadyH.cons (i := 12) (o := ⟨some 51, _, _, _, _, _⟩) rfl (fun K hK => ?_) AllReadyH.nil
 go_simp
 go_at_call 17; refine Calls.mono (rof_n 4 (by decide) (by decide) _) ?_; rintro e wA ⟨sA, aA, lA, cA, rfl, zA, kA, hlA⟩
 have kW := grow_step kA kW
 try go_wp2_with fail
 refine hK.out _ _ ?_ ?_
 ·first | with_reducible exact trivial | ((try dsimp only); exact ⟨(Below.cell (p := ⟨cb, _, none⟩) kW hcb).trans e0, (Below.cell (p := ⟨cb, _, none⟩) kW hcb).trans e1⟩)
 clear hK K hHeld; intro hHeld
 (try simp only [Act.put, List.setIfInBounds_toArray, List.set_cons_zero, List.set_cons_succ])
 refine wpAnyH_ready (rs := [13]) (by decide +kernel) (by simp) ?_
 refine AllReadyH.cons (i := 13) (o := ⟨some 52, _, _, _, _, _⟩) rfl (fun K hK => ?_) AllReadyH.nil
 go_simp
 go_at_call 32; refine Calls.mono (ints_zn (z := zc) (y := ⟨sA, aA, lA, cA⟩) (hzc.out.zn.zn.below kW) zA) ?_; rintro e wI ⟨rfl, kI⟩
 have kW := grow_step kI kW
 try go_wp2_with fail
 refine hK.out _ _ ?_ ?_
 ·first | with_reducible exact trivial | ((try dsimp only); exact ⟨(Below.cell (p := ⟨cb, _, none⟩) kW hcb).trans e0, (Below.cell (p := ⟨cb, _, none⟩) kW hcb).trans e1⟩)
 clear hK K hHeld; intro hHeld
 (try simp only [Act.put, List.setIfInBounds_toArray, List.set_cons_zero, List.set_cons_succ])
 refine wpAnyH_take (i := 14) (oi := ⟨some 53, _, _, _, _, _⟩) (v := ?_) rfl (by decide +kernel) (by decide +kernel) (by decide +kernel) (fun _ _ _ h => h) (Or.inl ⟨by rfl, ?_⟩) (by assumption) ?_
 rotate_left
 ·intro wq hSw; (try dsimp only at hSw); go_simp; (try with_reducible rfl)
 (try simp only [Act.put, List.setIfInBounds_toArray, List.set_cons_zero, List.set_cons_succ])
 refine wpAnyH_take (i := 15) (oi := ⟨some 54, _, _, _, _, _⟩) (v := ?_) rfl (by decide +kernel) (by decide +kernel) (by decide +kernel) (fun _ _ _ h => h) (Or.inl ⟨by rfl, ?_⟩) (by assumption) ?_
 rotate_left
 ·intro wq hSw; (try dsimp only at hSw); go_simp; (try with_reducible rfl)
 (try simp only [Act.put, List.setIfInBounds_toArray, List.set_cons_zero, List.set_cons_succ])
 refine wpAnyH_take (i := 16) (oi := ⟨some 55, _, _, _, _, _⟩) (v := ?_) rfl (by decide +kernel) (by decide +kernel) (by decide +kernel) (fun _ _ _ h => h) (Or.inl ⟨by rfl, ?_⟩) (by assumption) ?_
 rotate_left
 ·intro wq hSw; (try dsimp only at hSw); go_simp; (try with_reducible rfl)
 (try simp only [Act.put, List.setIfInBounds_toArray, List.set_cons_zero, List.set_cons_succ])
 refine wpAnyH_ready (rs := [17]) (by decide +kernel) (by simp) ?_
 refine AllReadyH.cons (i := 17) (o := ⟨some 56, _, _, _, _, _⟩) rfl (fun K hK => ?_) AllReadyH.nil
 go_simp
 go_at_call 17; refine Calls.mono (rof_n 5 (by decide) (by decide) _) ?_; rintro e wB ⟨sB, aB, lB, cB, rfl, zB, kB, hlB⟩
 have kW := grow_step kB kW
 try go_wp2_with fail
 refine hK.out _ _ ?_ ?_
 ·first | with_reducible exact trivial | ((try dsimp only); exact ⟨(Below.cell (p := ⟨cb, _, none⟩) kW hcb).trans e0, (Below.cell (p := ⟨cb, _, none⟩) kW hcb).trans e1⟩)
 clear hK K hHeld; intro hHeld
 (try simp only [Act.put, List.setIfInBounds_toArray, List.set_cons_zero, List.set_cons_succ])
 refine wpAnyH_ready (rs := [18]) (by decide +kernel) (by simp) ?_
 refine AllReadyH.cons (i := 18) (o := ⟨some 57, _, _, _, _, _⟩) rfl (fun K hK => ?_) AllReadyH.nil
 go_simp
 go_at_call 13; refine Calls.mono (sHas_n (y := ⟨sB, aB, lB, cB⟩) (p8.out.below kW) (by rw [d2.out]; decide) zB.zm (by show lB ≤ _; omega)) ?_; rintro e wHB ⟨rfl, kHB⟩; rw [d3.out]
 have kW := grow_step kHB kW
 try go_wp2_with fail
 refine hK.out _ _ ?_ ?_
 ·first | with_reducible exact trivial | ((try dsimp only); exact ⟨(Below.cell (p := ⟨cb, _, none⟩) kW hcb).trans e0, (Below.cell (p := ⟨cb, _, none⟩) kW hcb).trans e1⟩)
 clear hK K hHeld; intro hHeld
 (try simp only [Act.put, List.setIfInBounds_toArray, List.set_cons_zero, List.set_cons_succ])
 refine wpAnyH_take (i := 19) (oi := ⟨some 58, _, _, _, _, _⟩) (v := ?_) rfl (by decide +kernel) (by decide +kernel) (by decide +kernel) (fun _ _ _ h => h) (Or.inl ⟨by rfl, ?_⟩) (by assumption) ?_
 rotate_left
 ·intro wq hSw; (try dsimp only at hSw); go_simp; (try with_reducible rfl)
 (try simp only [Act.put, List.setIfInBounds_toArray, List.set_cons_zero, List.set_cons_succ])
 refine wpAnyH_take (i := 20) (oi := ⟨some 59, _, _, _, _, _⟩) (v := ?_) rfl (by decide +kernel) (by decide +kernel) (by decide +kernel) (fun _ _ _ h => h) (Or.inl ⟨by rfl, ?_⟩) (by assumption) ?_
 rotate_left
 ·intro wq hSw; (try dsimp only at hSw); go_simp; (try with_reducible rfl)
 (try simp only [Act.put, List.setIfInBounds_toArray, List.set_cons_zero, List.set_cons_succ])
 refine wpAnyH_take (i := 21) (oi := ⟨some 60, _, _, _, _, _⟩) (v := ?_) rfl (by decide +kernel) (by decide +kernel) (by decide +kernel) (fun _ _ _ h => h) (Or.inl ⟨by rfl, ?_⟩) (by assumption) ?_
 rotate_left
 ·intro wq hSw; (try dsimp only at hSw); go_simp; (try with_reducible rfl)
 (try simp only [Act.put, List.setIfInBounds_toArray, List.set_cons_zero, List.set_cons_succ])
 refine wpAnyH_ready (rs := [22]) (by decide +kernel) (by simp) ?_
 refine AllReadyH.cons (i := 22) (o := ⟨some 61, _, _, _, _, _⟩) rfl (fun K hK => ?_) AllReadyH.nil
 go_simp
 go_at_call 17; refine Calls.mono (rof_n 1 (by decide) (by decide) _) ?_; rintro e wC ⟨sC, aC, lC, cC, rfl, zC, kC, hlC⟩
 have kW := grow_step kC kW
 try go_wp2_with fail
 refine hK.out _ _ ?_ ?_
 ·first | with_reducible exact trivial | ((try dsimp only); exact ⟨(Below.cell (p := ⟨cb, _, none⟩) kW hcb).trans e0, (Below.cell (p := ⟨cb, _, none⟩) kW hcb).trans e1⟩)
 clear hK K hHeld; intro hHeld
 (try simp only [Act.put, List.setIfInBounds_toArray, List.set_cons_zero, List.set_cons_succ])
 refine wpAnyH_ready (rs := [23]) (by decide +kernel) (by simp) ?_
 refine AllReadyH.cons (i := 23) (o := ⟨some 62, _, _, _, _, _⟩) rfl (fun K hK => ?_) AllReadyH.nil
 go_simp
 go_at_call 13; refine Calls.mono (sHas_n (y := ⟨sC, aC, lC, cC⟩) (p8.out.below kW) (by rw [d2.out]; decide) zC.zm (by show lC ≤ _; omega)) ?_; rintro e wHC ⟨rfl, kHC⟩; rw [d4.out]
 have kW := grow_step kHC kW
 try go_wp2_with fail
 refine hK.out _ _ ?_ ?_
 ·first | with_reducible exact trivial | ((try dsimp only); exact ⟨(Below.cell (p := ⟨cb, _, none⟩) kW hcb).trans e0, (Below.cell (p := ⟨cb, _, none⟩) kW hcb).trans e1⟩)
 clear hK K hHeld; intro hHeld
 (try simp only [Act.put, List.setIfInBounds_toArray, List.set_cons_zero, List.set_cons_succ])
 refine wpAnyH_take (i := 24) (oi := ⟨some 63, _, _, _, _, _⟩) (v := ?_) rfl (by decide +kernel) (by decide +kernel) (by decide +kernel) (fun _ _ _ h => h) (Or.inl ⟨by rfl, ?_⟩) (by assumption) ?_
 rotate_left
 ·intro wq hSw; (try dsimp only at hSw); go_simp; (try with_reducible rfl)
 (try simp only [Act.put, List.setIfInBounds_toArray, List.set_cons_zero, List.set_cons_succ])
 refine wpAnyH_take (i := 25) (oi := ⟨some 64, _, _, _, _, _⟩) (v := ?_) rfl (by decide +kernel) (by decide +kernel) (by decide +kernel) (fun _ _ _ h => h) (Or.inl ⟨by rfl, ?_⟩) (by assumption) ?_
 rotate_left
 ·intro wq hSw; (try dsimp only at hSw); go_simp; (try with_reducible rfl)
 (try simp only [Act.put, List.setIfInBounds_toArray, List.set_cons_zero, List.set_cons_succ])
 refine wpAnyH_take (i := 26) (oi := ⟨some 65, _, _, _, _, _⟩) (v := ?_) rfl (by decide +kernel) (by decide +kernel) (by decide +kernel) (fun _ _ _ h => h) (Or.inl ⟨by rfl, ?_⟩) (by assumption) ?_
 rotate_left
 ·intro wq hSw; (try dsimp only at hSw); go_simp; (try with_reducible rfl)
 (try simp only [Act.put, List.setIfInBounds_toArray, List.set_cons_zero, List.set_cons_succ])
 refine wpAnyH_take (i := 27) (oi := ⟨some 66, _, _, _, _, _⟩) (v := ?_) rfl (by decide +kernel) (by decide +kernel) (by decide +kernel) (fun _ _ _ h => h) (Or.inl ⟨by rfl, ?_⟩) (by assumption) ?_
 rotate_left
 ·intro wq hSw; (try dsimp only at hSw); go_simp; (try with_reducible rfl)
 (try simp only [Act.put, List.setIfInBounds_toArray, List.set_cons_zero, List.set_cons_succ])
 refine wpAnyH_ready (rs := [28]) (by decide +kernel) (by simp) ?_
 refine AllReadyH.cons (i := 28) (o := ⟨some 67, _, _, _, _, _⟩) rfl (fun K hK => ?_) AllReadyH.nil
 go_simp
 go_at_call 17; refine Calls.mono (rof_n 6 (by decide) (by decide) _) ?_; rintro e wD ⟨sD, aD, lD, cD, rfl, zD, kD, hlD⟩
 have kW := grow_step kD kW
 try go_wp2_with fail
 refine hK.out _ _ ?_ ?_
 ·first | with_reducible exact trivial | ((try dsimp only); exact ⟨(Below.cell (p := ⟨cb, _, none⟩) kW hcb).trans e0, (Below.cell (p := ⟨cb, _, none⟩) kW hcb).trans e1⟩)
 clear hK K hHeld; intro hHeld
 (try simp only [Act.put, List.setIfInBounds_toArray, List.set_cons_zero, List.set_cons_succ])
 refine wpAnyH_ready (rs := [29]) (by decide +kernel) (by simp) ?_
 refine AllReadyH.cons (i := 29) (o := ⟨some 68, _, _, _, _, _⟩) rfl (fun K hK => ?_) AllReadyH.nil
 go_simp
 go_at_call 13; refine Calls.mono (sHas_n (y := ⟨sD, aD, lD, cD⟩) (p8.out.below kW) (by rw [d2.out]; decide) zD.zm (by show lD ≤ _; omega)) ?_; rintro e wHD ⟨rfl, kHD⟩; rw [d5.out]
 have kW := grow_step kHD kW
 try go_wp2_with fail
 refine hK.out _ _ ?_ ?_
 ·first | with_reducible exact trivial | ((try dsimp only); exact ⟨(Below.cell (p := ⟨cb, _, none⟩) kW hcb).trans e0, (Below.cell (p := ⟨cb, _, none⟩) kW hcb).trans e1⟩)
 clear hK K hHeld; intro hHeld
 (try simp only [Act.put, List.setIfInBounds_toArray, List.set_cons_zero, List.set_cons_succ])
 refine wpAnyH_take (i := 30) (oi := ⟨some 69, _, _, _, _, _⟩) (v := ?_) rfl (by decide +kernel) (by decide +kernel) (by decide +kernel) (fun _ _ _ h => h) (Or.inl ⟨by rfl, ?_⟩) (by assumption) ?_
 rotate_left
 ·intro wq hSw; (try dsimp only at hSw); go_simp; (try with_reducible rfl)
 (try simp only [Act.put, List.setIfInBounds_toArray, List.set_cons_zero, List.set_cons_succ])
 refine wpAnyH_take (i := 31) (oi := ⟨some 70, _, _, _, _, _⟩) (v := ?_) rfl (by decide +kernel) (by decide +kernel) (by decide +kernel) (fun _ _ _ h => h) (Or.inl ⟨by rfl, ?_⟩) (by assumption) ?_
 rotate_left
 ·intro wq hSw; (try dsimp only at hSw); go_simp; (try with_reducible rfl)
 (try simp only [Act.put, List.setIfInBounds_toArray, List.set_cons_zero, List.set_cons_succ])
 refine wpAnyH_take (i := 32) (oi := ⟨some 71, _, _, _, _, _⟩) (v := ?_) rfl (by decide +kernel) (by decide +kernel) (by decide +kernel) (fun _ _ _ h => h) (Or.inl ⟨by rfl, ?_⟩) (by assumption) ?_
 rotate_left
 ·intro wq hSw; (try dsimp only at hSw); go_simp; (try with_reducible rfl)
 (try simp only [Act.put, List.setIfInBounds_toArray, List.set_cons_zero, List.set_cons_succ])
 refine wpAnyH_take (i := 33) (oi := ⟨some 72, _, _, _, _, _⟩) (v := ?_) rfl (by decide +kernel) (by decide +kernel) (by decide +kernel) (fun _ _ _ h => h) (Or.inl ⟨by rfl, ?_⟩) (by assumption) ?_
 rotate_left
 ·intro wq hSw; (try dsimp only at hSw); go_simp; (try with_reducible rfl)
 (try simp only [Act.put, List.setIfInBounds_toArray, List.set_cons_zero, List.set_cons_succ])
 refine wpAnyH_take (i := 34) (oi := ⟨some 73, _, _, _, _, _⟩) (v := ?_) rfl (by decide +kernel) (by decide +kernel) (by decide +kernel) (fun _ _ _ h => h) (Or.inl ⟨by rfl, ?_⟩) (by assumption) ?_
 rotate_left
 ·intro wq hSw; (try dsimp only at hSw); go_simp; (try with_reducible rfl)
 (try simp only [Act.put, List.setIfInBounds_toArray, List.set_cons_zero, List.set_cons_succ])
 refine wpAnyH_ready (rs := [35]) (by decide +kernel) (by simp) ?_
 refine AllReadyH.cons (i := 35) (o := ⟨some 74, _, _, _, _, _⟩) rfl (fun K hK => ?_) AllReadyH.nil
 go_simp
 go_at_call 20; refine Calls.mono (same_t (p8.out.below kW) (by rw [d2.out]; decide)) ?_; rintro e wS ⟨rfl, kS⟩
 have kW := grow_step kS kW
 try go_wp2_with fail
 refine hK.out _ _ ?_ ?_
 ·first | with_reducible exact trivial | ((try dsimp only); exact ⟨(Below.cell (p := ⟨cb, _, none⟩) kW hcb).trans e0, (Below.cell (p := ⟨cb, _, none⟩) kW hcb).trans e1⟩)
 clear hK K hHeld; intro hHeld
 (try simp only [Act.put, List.setIfInBounds_toArray, List.set_cons_zero, List.set_cons_succ])
 refine wpAnyH_take (i := 36) (oi := ⟨some 75, _, _, _, _, _⟩) (v := ?_) rfl (by decide +kernel) (by decide +kernel) (by decide +kernel) (fun _ _ _ h => h) (Or.inl ⟨by rfl, ?_⟩) (by assumption) ?_
 rotate_left
 ·intro wq hSw; (try dsimp only at hSw); go_simp; (try with_reducible rfl)
 (try simp only [Act.put, List.setIfInBounds_toArray, List.set_cons_zero, List.set_cons_succ])
 refine wpAnyH_ready (rs := [37]) (by decide +kernel) (by simp) ?_
 refine AllReadyH.cons (i := 37) (o := ⟨some 0, _, _, _, _, _⟩) rfl (fun K hK => ?_) AllReadyH.nil
 go_simp
 refine hK.out _ _ ?_ ?_
 ·first | with_reducible exact trivial | ((try dsimp only); exact ⟨(Below.cell (p := ⟨cb, _, none⟩) kW hcb).trans e0, (Below.cell (p := ⟨cb, _, none⟩) kW hcb).trans e1⟩)
 clear hK K hHeld; intro hHeld
 (try simp only [Act.put, List.setIfInBounds_toArray, List.set_cons_zero, List.set_cons_succ])
 refine wpAnyH_done ?_ ?_ _
 ·decide +kernel
 have kZ := hide (grow_step kW k8.out)
 clear kW hHeld
 go_wp2
 exact bodyPost_ret (results_tmp rfl _ _ _) rfl ⟨rfl, kZ.out⟩
end Pd
end Go.Proofs.Ytojciccmjpabmaa
