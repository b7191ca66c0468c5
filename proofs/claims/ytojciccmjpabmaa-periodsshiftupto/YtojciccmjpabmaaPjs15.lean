/-
 The law PeriodsShift: its walk.
-/
import Derived.Test.YtojciccmjpabmaaPjs14
import Derived.Lib.BufferMore
import Derived.Deep.DeepCutAuto
namespace Go.Proofs.Ytojciccmjpabmaa
open Go.RowKit
namespace Pd

theorem onep_sl {w : World} {b : Nat} {A : PD} (hA : PS w b A) : SLs (w.alloc (.cells #[.pointer (some ⟨b, 0, none⟩)] 27)) (some ⟨w.heap.size, 0, none⟩) 1 [A] := by
 have k := below_alloc w (.cells #[.pointer (some ⟨b, 0, none⟩)] 27)
 have y := heap_alloc_new w (.cells #[.pointer (some ⟨b, 0, none⟩)] 27)
 refine ⟨rfl, .inr ⟨w.heap.size, [b], rfl, by simp, pp_one (hA.below k), fun i hi => ?_⟩⟩
 obtain rfl : i = 0 := by simp at hi; omega
 exact cell_of_row _ w.heap.size 0 _ _ (0, 0) y
/-- where no cut lies between -/
theorem mem_shift {D : PD} {x : Int} (h : ∀ c ∈ D.cs, ¬ (x < c ∧ c ≤ x + D.p)) : mem D (x + D.p) = mem D x := by
 have e : plc D.cs (x + D.p) = plc D.cs x := by
  unfold plc
  refine List.countP_congr fun c hc => ?_
  have := h c hc
  simp only [decide_eq_true_eq]
  omega
 unfold mem
 rw [e, Int.add_emod_right]
theorem cmpI_cases (a b : Int) : (cmpI a b = -1 ∧ a < b) ∨ (cmpI a b = 0 ∧ a = b) ∨ (cmpI a b = 1 ∧ b < a) := by
 unfold cmpI
 split
 ·exact .inl ⟨rfl, by omega⟩
 ·split
  ·exact .inr (.inr ⟨rfl, by omega⟩)
  ·exact .inr (.inl ⟨rfl, by omega⟩)
/-- a number's variable is written: its world has a name -/
theorem st_z {v w : World} {b : Nat} {s : Bool} {a : Option Addr} {l c : Nat} (k : Below v.heap.size v w) (hb : v.heap.size ≤ b) (h : ZB w b s a l c) (s' : Bool) (a' : Option Addr) (l' c' : Nat) : ∃ w8, Hid ((w.setCell ⟨b, 0, none⟩ (.bool s')).setCell ⟨b, 1, none⟩ (.slice a' l' c') = w8) ∧ ZB w8 b s' a' l' c' ∧ Below v.heap.size v w8 ∧ ∀ s1 ad len cap z, Zn w s1 ad len cap z → Zn w8 s1 ad len cap z :=
 ⟨_, rfl, zb_fin h s' a' l' c', (k.setCell (p := ⟨b, 0, none⟩) hb (.bool s')).setCell (p := ⟨b, 1, none⟩) hb (.slice a' l' c'), fun _ _ _ _ _ hz => zb_zn h hz _ _ _ _⟩
theorem up_at {cs : List Int} (h : cs.Pairwise (· < ·)) {n : Nat} (hn : n + 1 < cs.length) : cs[n] < cs[n + 1] := List.pairwise_iff_getElem.1 h n (n + 1) (by omega) hn (by omega)
set_option maxRecDepth 100000 in
set_option maxHeartbeats 12800000 in
theorem periodsShift_walk {w : World} {la pa : Option Addr} {ln lc np cp : Nat} {R : List MkD} {qp : List ZV} {xp : List Int} (hR : MLs w la ln R) (hn : ln ≤ 1048576) (hp : XP w pa np cp qp xp) (hnp : np ≤ 1048576) :
  Calls Try.prog 4 #[.slice la ln lc, .slice pa np cp] w fun e w' => e = .returned (.bool true) ∧ Below w.heap.size w w' := by
 have hset := hide (sets_n (lc := lc) hR hn)
 replace hp := hide hp
 clear hR
 go_enter Try.func4, Try.ntmps4
 go_wp2_with fail
 refine hset.out.mono ?_
 rintro e w1 ⟨sa, sn, sc, Ds, rfl, hsa, hsl, hs1, hs2, hcs, -, k1⟩
 obtain ⟨ba, -, rfl, -⟩ := hsl.get (i := 0) hs1 (by have := hsl.1; omega)
 have hkn := hide (known_n w1)
 have hnil : ∀ W : World, (binOp .eql 24 (.slice (some ⟨ba, 0, none⟩) sn sc) (.slice none 0 0)).run Try.prog W = .ok (.bool false) W := fun W => Go.Lib.run_eql_slice_some_nil W _ _ _ Try.underlying24
 clear hsa
 replace hsl := hide hsl
 replace hcs := hide hcs
 clear hset
 go_wp2_with fail
 refine hkn.out.mono ?_
 rintro e w2 ⟨rfl, k2⟩
 have hs := hide (hsl.out.below k2)
 have kw := hide (grow_step k2 k1)
 clear hkn hsl k2 k1
 go_wp2_with fail
 go_loopw [6] (fun vi wr => ∃ i : Nat, i ≤ sn ∧ vi = .int .i64 i ∧ Below w2.heap.size w2 wr) (fun vi _ => sn - (intOf vi).toNat)
 case atStart => exact ⟨0, Nat.zero_le _, rfl, Below.refl _ _⟩
 case round =>
  obtain ⟨i, hi, rfl, kr⟩ := hrel
  by_cases hin : i < sn
  ·have hl := hs.out.1
   obtain ⟨b1, sS, e1, hb1, d0, hS⟩ := (hs.out.below kr).get hin (by omega)
   cases e1
   have hcS := hcs.out _ (List.getElem_mem (show i < Ds.length by omega))
   generalize Ds[i]'(by omega) = S at *
   have hwf := hide hS.wf
   have hct := hide (cuts_n hS (by omega))
   replace hS := hide hS
   replace hl := hide hl
   replace kr := hide kr
   go_wp2_with fail
   refine hct.out.mono ?_
   rintro e w3 ⟨ca, cc, rfl, hcl, k3, -⟩
   have hpe := hide (period_b (hS.out.below k3))
   have kr3 := hide (grow_step k3 kr.out)
   have hS3 := hide (hS.out.below k3)
   replace hcl := hide hcl
   obtain ⟨p, hp0⟩ : ∃ p, S.p = p := ⟨_, rfl⟩
   have hp1 : 1 ≤ p := by rw [← hp0]; exact hwf.out.p1
   have hp2 : p ≤ 4096 := by rw [← hp0]; exact hwf.out.p2
   rw [hp0] at hpe
   obtain ⟨nc, hnc⟩ : ∃ nc, S.cs.length = nc := ⟨_, rfl⟩
   rw [hnc] at hcl ⊢
   have hncb : nc ≤ 4096 := by rw [← hnc]; exact hcS
   replace hp0 := hide hp0
   replace hnc := hide hnc
   clear hct k3 kr d0 hS
   go_wp2_with fail
   refine hpe.out.mono ?_
   rintro e w4 ⟨rfl, k4⟩
   have hd1 : decide (p < 1) = false := by rw [decide_eq_false_iff_not]; omega
   have hd2 : decide (4096 < p) = false := by rw [decide_eq_false_iff_not]; omega
   have kr4 := grow_step k4 kr3.out
   have hS4 := hide (hS3.out.below k4)
   have hcl4 := hide (hcl.out.below k4)
   have ba5 := below_alloc w4 (.cells #[.pointer (some ⟨sS, 0, none⟩)] 27)
   have kr5 := grow_step ba5 kr4
   have hso := hide (some_n (sc := 1) (hp.out.below (grow_step kr5 kw.out)) hnp (onep_sl hS4.out) (by decide) (fun D h => by rw [List.mem_singleton.1 h]; omega))
   replace kr5 := hide kr5
   replace ba5 := hide ba5
   clear hpe k4 kr3 kr4 hS3 hcl
   go_wp2_with fail
   refine hso.out.mono ?_
   rintro e w7 ⟨aa, an, ac, xs, rfl, hns, han, k7⟩
   have kw7 := hide (grow_step k7 kr5.out)
   have kb7 := grow_step k7 ba5.out
   replace hns := hide hns
   have hS7 := hide (hS4.out.below kb7)
   have hcl7 := hide (hcl4.out.below kb7)
   clear hso k7 kr5 kb7 ba5 hS4 hcl4 hd1 hd2
   go_wp2_with fail
   go_loopw [11] (fun vi wr => ∃ k : Nat, k ≤ an ∧ vi = .int .i64 k ∧ Below w7.heap.size w7 wr) (fun vi _ => an - (intOf vi).toNat)
   case atStart => exact ⟨0, Nat.zero_le _, rfl, Below.refl _ _⟩
   case round =>
    obtain ⟨k, hk, rfl, kq⟩ := hrel
    by_cases hkn : k < an
    ·obtain ⟨ab, z, x, rfl, hab, c0, c1, hz, hzl⟩ := (hns.out.below kq).get hkn
     have bz := below_alloc wr (.cells #[.bool z.s, .slice z.a z.l z.c] 36)
     have yz := zb_new wr z.s z.a z.l z.c
     have hza := hide (hz.below bz)
     have kqa := hide (grow_step bz kq)
     clear kq hz
     go_upto_region 17 with (fail)
     generalize wr.alloc (.cells #[.bool z.s, .slice z.a z.l z.c] 36) = wa at *
     obtain ⟨bx, hbx⟩ : ∃ bx, wr.heap.size = bx := ⟨_, rfl⟩
     rw [hbx] at yz ⊢
     clear bz c0 c1 hab
     go_cut [13] (fun v13 wc => ∃ (b5 : Nat) (sB : Bool) (aB : Option Addr) (lB cB : Nat), v13 = .pointer (some ⟨b5, 0, none⟩) ∧ Hid (ZB wc bx z.s z.a z.l z.c) ∧ Hid (ZB wc b5 sB aB lB cB) ∧ Hid (Zn wc sB aB lB cB (x + p)) ∧ lB ≤ 17179869000 ∧ Hid (Below wa.heap.size wa wc))
     case first =>
      refine wp_region_held_drew (S := (fun w' => w'.cell? ⟨bx, 0, none⟩ = some (.bool z.s) ∧ w'.cell? ⟨bx, 1, none⟩ = some (.slice z.a z.l z.c))) (by kernel_rfl) (⟨(yz.below (grow_drew (Below.refl _ _))).c0, (yz.below (grow_drew (Below.refl _ _))).c1⟩) (fun hHeld => ?_)
      show wpAnyH _ _ _ _ _ 6 _ _ _
      have kW := grow_drew (Below.refl wa.heap.size wa)
      generalize wa.drew = wQ at *
      repeat' first
       | with_reducible exact AllReadyH.nil
       | (
        refine wpAnyH_take (i := 0) (oi := ⟨some 58, _, _, _, _, _⟩) (v := ?_) rfl (by decide +kernel) (by decide +kernel) (by decide +kernel) (fun _ _ _ h => h) (Or.inl ⟨by rfl, ?_⟩) (by assumption) ?_
        rotate_left
        ·intro wq hSw; (try dsimp only at hSw); go_simp; (try with_reducible rfl)
        (try simp only [Act.put, List.setIfInBounds_toArray, List.set_cons_zero, List.set_cons_succ]))
       | (
        refine wpAnyH_take (i := 1) (oi := ⟨some 59, _, _, _, _, _⟩) (v := ?_) rfl (by decide +kernel) (by decide +kernel) (by decide +kernel) (fun _ _ _ h => h) (Or.inl ⟨by rfl, ?_⟩) (by assumption) ?_
        rotate_left
        ·intro wq hSw; (try dsimp only at hSw); go_simp; (try with_reducible rfl)
        (try simp only [Act.put, List.setIfInBounds_toArray, List.set_cons_zero, List.set_cons_succ]))
       | (refine wpAnyH_ready (rs := [2, 4]) ?_ ?_ ?_; decide +kernel; simp)
       | (refine wpAnyH_ready (rs := [3, 4]) ?_ ?_ ?_; decide +kernel; simp)
       | (refine wpAnyH_ready (rs := [4]) ?_ ?_ ?_; decide +kernel; simp)
       | (refine wpAnyH_ready (rs := [5]) ?_ ?_ ?_; decide +kernel; simp)
       | (refine wpAnyH_ready (rs := [3]) ?_ ?_ ?_; decide +kernel; simp)
       | (refine wpAnyH_ready (rs := [2]) ?_ ?_ ?_; decide +kernel; simp)
       | (
        first
         | (
          refine AllReadyH.cons (i := 2) (o := ⟨some 60, _, _, _, _, _⟩) rfl (fun K hK => ?_) ?_
          go_simp
          go_at_call 17; refine Calls.mono (rof_n (p : Int) (by omega) (by omega) _) ?_; rintro e wA ⟨sA, aA, lA, cA, rfl, hzA, kA, hlA⟩
          try have hzB := hzB.below kA
          try have z5 := z5.below kA
          have kW := grow_step kA kW
          try go_wp2_with fail)
         | (
          refine AllReadyH.cons (i := 3) (o := ⟨some 61, _, _, _, _, _⟩) rfl (fun K hK => ?_) ?_
          go_simp
          go_at_call 16; refine Calls.mono (radd2_n (hza.out.below kW) hzA.zm (by omega) (by omega)) ?_; rintro e wB ⟨sB, aB, lB, cB, rfl, hzB, kB, hlB⟩
          try have hzA := hzA.below kB
          try have z5 := z5.below kB
          have kW := grow_step kB kW
          try go_wp2_with fail)
         | (
          refine AllReadyH.cons (i := 4) (o := ⟨some 13, _, _, _, _, _⟩) rfl (fun K hK => ?_) ?_
          obtain ⟨wL, b5, eL, eb5, z5, hb5, kL, kW⟩ := al_b kW (.cells #[.bool false, .slice none 0 0] 36)
          replace z5 : ZB wL b5 false none 0 0 := z5
          try have hzA := hzA.below kL
          try have hzB := hzB.below kL
          go_simp
          rw [eL.out]
          (try simp only [eb5.out]))
         | (
          refine AllReadyH.cons (i := 5) (o := ⟨none, _, _, _, _, _⟩) rfl (fun K hK => ?_) ?_
          have f0 := z5.c0
          have f1 := z5.c1
          have f2 := z5.f 0
          have f3 := z5.f 1
          obtain ⟨w8, e8, z8, kZ, hzn⟩ := st_z kW hb5 z5 sB aB lB cB
          have hzB := hzn _ _ _ _ _ hzB
          go_simp
          rw [e8.out]
          clear f0 f1 f2 f3
          have kW := kZ)
        refine hK.out _ _ ?_ ?_
        ·first | with_reducible exact trivial | ((try dsimp only); exact ⟨(yz.below kW).c0, (yz.below kW).c1⟩)
        clear hK K hHeld; intro hHeld
        (try simp only [Act.put, List.setIfInBounds_toArray, List.set_cons_zero, List.set_cons_succ]))
      all_goals
       refine wpAnyH_done ?_ ?_ _
       ·decide +kernel
       have y1 := hide (yz.below kW)
       have y2 := hide z8
       have y3 := hide hzB
       have y4 := hide kW
       have y5 : lB ≤ 17179869000 := by omega
       clear kW hHeld z8 hzB hzA hzn z5
       go_wp2_with fail
       go_meet
       case rel => exact ⟨b5, sB, aB, lB, cB, rfl, y1, y2, y3, y5, y4⟩
     case rest =>
      obtain ⟨b5, sB, aB, lB, cB, rfl, yx8, yy8, hy8, hlB, kW⟩ := hcut
      generalize wc = w8 at *
      have hx8 := hide (hza.out.below kW.out)
      have k8 := hide (grow_step kW.out kqa.out)
      have hS8 := hide (hS7.out.below k8.out)
      have hcl8 := hide (hcl7.out.below k8.out)
      clear kW kqa hza yz
      go_wp2_with fail
      go_loopw [14, 15] (fun vb vi wr => ∃ (n : Nat) (bt : Bool), n ≤ nc ∧ vi = .int .i64 n ∧ vb = .bool bt ∧ (bt = false → ∀ m (h : m < S.cs.length), m < n → ¬ (x < S.cs[m] ∧ S.cs[m] ≤ x + p)) ∧ Below w8.heap.size w8 wr) (fun _ vi _ => nc - (intOf vi).toNat)
      case atStart => exact ⟨0, false, Nat.zero_le _, rfl, rfl, fun _ m h h2 => absurd h2 (Nat.not_lt_zero _), Below.refl _ _⟩
      case round =>
       obtain ⟨n, bt, hn2, rfl, rfl, hbt, kq⟩ := hrel
       replace hbt := hide hbt
       by_cases hnn : n < nc
       ·obtain ⟨cb, off, zc, hca, hcr, d0, d1, hzr⟩ := (hcl8.out.below kq).get hnn (by rw [hnc.out]; exact hnn)
        obtain ⟨cn, hcn⟩ : ∃ cn, S.cs[n]'(by rw [hnc.out]; exact hnn) = cn := ⟨_, rfl⟩
        rw [hcn] at hzr
        replace hcn := hide hcn
        have hzl2 := hzr.len
        cases hca
        replace hzr := hide hzr
        replace kq := hide kq
        go_upto_if 22 with (fail)
        go_cut [82] (fun v82 wc => v82 = .bool false ∧ Hid (Below wr.heap.size wr wc))
        case first =>
         by_cases hn0 : n = 0
         ·have hg0 : decide (0 < n) = false := by rw [decide_eq_false_iff_not]; omega
          go_upto_region 22 with (fail)
          refine wp_region_held_drew (S := (fun _ => True)) (by kernel_rfl) (True.intro) (fun hHeld => ?_)
          show wpAnyH _ _ _ _ _ 15 _ _ _
          have kW := grow_drew (Below.refl wr.heap.size wr)
          generalize wr.drew = wQ at *
          refine wpAnyH_take (i := 0) (oi := ⟨some 68, _, _, _, _, _⟩) (v := ?_) rfl (by decide +kernel) (by decide +kernel) (by decide +kernel) (fun _ _ _ h => h) (Or.inl ⟨by rfl, ?_⟩) (by assumption) ?_
          rotate_left
          ·intro wq hSw; (try dsimp only at hSw); go_simp; (try with_reducible rfl)
          (try simp only [Act.put, List.setIfInBounds_toArray, List.set_cons_zero, List.set_cons_succ])
          refine wpAnyH_take (i := 1) (oi := ⟨some 69, _, _, _, _, _⟩) (v := ?_) rfl (by decide +kernel) (by decide +kernel) (by decide +kernel) (fun _ _ _ h => h) (Or.inl ⟨by rfl, ?_⟩) (by assumption) ?_
          rotate_left
          ·intro wq hSw; (try dsimp only at hSw); go_simp; (try with_reducible rfl)
          (try simp only [Act.put, List.setIfInBounds_toArray, List.set_cons_zero, List.set_cons_succ])
          refine wpAnyH_take (i := 2) (oi := ⟨some 70, _, _, _, _, _⟩) (v := ?_) rfl (by decide +kernel) (by decide +kernel) (by decide +kernel) (fun _ _ _ h => h) (Or.inl ⟨by rfl, ?_⟩) (by assumption) ?_
          rotate_left
          ·intro wq hSw; (try dsimp only at hSw); go_simp; (try with_reducible rfl)
          (try simp only [Act.put, List.setIfInBounds_toArray, List.set_cons_zero, List.set_cons_succ])
          refine wpAnyH_take (i := 3) (oi := ⟨some 71, _, _, _, _, _⟩) (v := undef) rfl (by decide +kernel) (by decide +kernel) (by decide +kernel) (fun _ _ _ h => h) (Or.inr ⟨by rfl, rfl⟩) (by assumption) ?_
          (try simp only [Act.put, List.setIfInBounds_toArray, List.set_cons_zero, List.set_cons_succ])
          refine wpAnyH_take (i := 4) (oi := ⟨some 72, _, _, _, _, _⟩) (v := undef) rfl (by decide +kernel) (by decide +kernel) (by decide +kernel) (fun _ _ _ h => h) (Or.inr ⟨by rfl, rfl⟩) (by assumption) ?_
          (try simp only [Act.put, List.setIfInBounds_toArray, List.set_cons_zero, List.set_cons_succ])
          refine wpAnyH_take (i := 5) (oi := ⟨some 73, _, _, _, _, _⟩) (v := undef) rfl (by decide +kernel) (by decide +kernel) (by decide +kernel) (fun _ _ _ h => h) (Or.inr ⟨by rfl, rfl⟩) (by assumption) ?_
          (try simp only [Act.put, List.setIfInBounds_toArray, List.set_cons_zero, List.set_cons_succ])
          refine wpAnyH_take (i := 6) (oi := ⟨some 74, _, _, _, _, _⟩) (v := undef) rfl (by decide +kernel) (by decide +kernel) (by decide +kernel) (fun _ _ _ h => h) (Or.inr ⟨by rfl, rfl⟩) (by assumption) ?_
          (try simp only [Act.put, List.setIfInBounds_toArray, List.set_cons_zero, List.set_cons_succ])
          refine wpAnyH_take (i := 7) (oi := ⟨some 75, _, _, _, _, _⟩) (v := undef) rfl (by decide +kernel) (by decide +kernel) (by decide +kernel) (fun _ _ _ h => h) (Or.inr ⟨by rfl, rfl⟩) (by assumption) ?_
          (try simp only [Act.put, List.setIfInBounds_toArray, List.set_cons_zero, List.set_cons_succ])
          refine wpAnyH_take (i := 8) (oi := ⟨some 76, _, _, _, _, _⟩) (v := undef) rfl (by decide +kernel) (by decide +kernel) (by decide +kernel) (fun _ _ _ h => h) (Or.inr ⟨by rfl, rfl⟩) (by assumption) ?_
          (try simp only [Act.put, List.setIfInBounds_toArray, List.set_cons_zero, List.set_cons_succ])
          refine wpAnyH_take (i := 9) (oi := ⟨some 77, _, _, _, _, _⟩) (v := undef) rfl (by decide +kernel) (by decide +kernel) (by decide +kernel) (fun _ _ _ h => h) (Or.inr ⟨by rfl, rfl⟩) (by assumption) ?_
          (try simp only [Act.put, List.setIfInBounds_toArray, List.set_cons_zero, List.set_cons_succ])
          refine wpAnyH_take (i := 10) (oi := ⟨some 78, _, _, _, _, _⟩) (v := undef) rfl (by decide +kernel) (by decide +kernel) (by decide +kernel) (fun _ _ _ h => h) (Or.inr ⟨by rfl, rfl⟩) (by assumption) ?_
          (try simp only [Act.put, List.setIfInBounds_toArray, List.set_cons_zero, List.set_cons_succ])
          refine wpAnyH_take (i := 11) (oi := ⟨some 79, _, _, _, _, _⟩) (v := undef) rfl (by decide +kernel) (by decide +kernel) (by decide +kernel) (fun _ _ _ h => h) (Or.inr ⟨by rfl, rfl⟩) (by assumption) ?_
          (try simp only [Act.put, List.setIfInBounds_toArray, List.set_cons_zero, List.set_cons_succ])
          refine wpAnyH_take (i := 12) (oi := ⟨some 80, _, _, _, _, _⟩) (v := undef) rfl (by decide +kernel) (by decide +kernel) (by decide +kernel) (fun _ _ _ h => h) (Or.inr ⟨by rfl, rfl⟩) (by assumption) ?_
          (try simp only [Act.put, List.setIfInBounds_toArray, List.set_cons_zero, List.set_cons_succ])
          refine wpAnyH_take (i := 13) (oi := ⟨some 81, _, _, _, _, _⟩) (v := undef) rfl (by decide +kernel) (by decide +kernel) (by decide +kernel) (fun _ _ _ h => h) (Or.inr ⟨by rfl, rfl⟩) (by assumption) ?_
          (try simp only [Act.put, List.setIfInBounds_toArray, List.set_cons_zero, List.set_cons_succ])
          refine wpAnyH_take (i := 14) (oi := ⟨some 82, _, _, _, _, _⟩) (v := ?_) rfl (by decide +kernel) (by decide +kernel) (by decide +kernel) (fun _ _ _ h => h) (Or.inl ⟨by rfl, ?_⟩) (by assumption) ?_
          rotate_left
          ·intro wq hSw; (try dsimp only at hSw); go_simp; (try with_reducible rfl)
          (try simp only [Act.put, List.setIfInBounds_toArray, List.set_cons_zero, List.set_cons_succ])
          refine wpAnyH_done ?_ ?_ _
          ·decide +kernel
          have kz := hide kW
          clear kW hHeld
          go_wp2_with fail
          go_meet
          case rel => exact ⟨rfl, kz⟩
         ·obtain ⟨nq, hnq⟩ : ∃ nq, n = nq + 1 := ⟨n - 1, by omega⟩
          obtain ⟨cb', off', zq, hca', -, g0, g1, hzq⟩ := (hcl8.out.below kq.out).get (i := nq) (by omega) (by rw [hnc.out]; omega)
          cases hca'
          have hup := up_at hwf.out.up (n := nq) (by rw [hnc.out]; omega)
          have hvm : Hid (cmpI (S.cs[nq]'(by rw [hnc.out]; omega)) cn = -1) := hide (by
           have hq : S.cs[nq + 1]'(by rw [hnc.out]; omega) = cn := by rw [← hcn.out]; congr 1; exact hnq.symm
           rw [hq] at hup
           unfold cmpI
           rw [if_pos hup])
          have hzql := hzq.len
          replace hzq := hide hzq.zm
          generalize S.cs[nq]'(by rw [hnc.out]; omega) = cq at *
          have hwn : IntKind.i64.wrap ((n : Int) - 1) = (nq : Int) := by rw [IntKind.wrap_i64]; omega
          have hg0 : decide (0 < n) = true := by rw [decide_eq_true_eq]; omega
          have hnqI : nq < nc := by omega
          clear hup
          have hnqh := hide hnq
          clear hnq
          go_upto_region 22 with (fail)
          refine wp_region_held_drew (S := (fun w' => w'.cell? ⟨cb, off + nq * 2, none⟩ = some (.bool zq.s) ∧ w'.cell? ⟨cb, off + nq * 2 + 1, none⟩ = some (.slice zq.a zq.l zq.c) ∧ w'.cell? ⟨cb, off + n * 2, none⟩ = some (.bool zc.s) ∧ w'.cell? ⟨cb, off + n * 2 + 1, none⟩ = some (.slice zc.a zc.l zc.c))) (by kernel_rfl) (⟨(Below.cell (p := ⟨cb, _, none⟩) (grow_drew (Below.refl _ _)) hcr).trans g0, (Below.cell (p := ⟨cb, _, none⟩) (grow_drew (Below.refl _ _)) hcr).trans g1, (Below.cell (p := ⟨cb, _, none⟩) (grow_drew (Below.refl _ _)) hcr).trans d0, (Below.cell (p := ⟨cb, _, none⟩) (grow_drew (Below.refl _ _)) hcr).trans d1⟩) (fun hHeld => ?_)
          show wpAnyH _ _ _ _ _ 15 _ _ _
          have kW := grow_drew (Below.refl wr.heap.size wr)
          generalize wr.drew = wQ at *
          refine wpAnyH_take (i := 0) (oi := ⟨some 68, _, _, _, _, _⟩) (v := ?_) rfl (by decide +kernel) (by decide +kernel) (by decide +kernel) (fun _ _ _ h => h) (Or.inl ⟨by rfl, ?_⟩) (by assumption) ?_
          rotate_left
          ·intro wq hSw; (try dsimp only at hSw); go_simp; (try with_reducible rfl)
          (try simp only [Act.put, List.setIfInBounds_toArray, List.set_cons_zero, List.set_cons_succ])
          refine wpAnyH_take (i := 1) (oi := ⟨some 69, _, _, _, _, _⟩) (v := ?_) rfl (by decide +kernel) (by decide +kernel) (by decide +kernel) (fun _ _ _ h => h) (Or.inl ⟨by rfl, ?_⟩) (by assumption) ?_
          rotate_left
          ·intro wq hSw; (try dsimp only at hSw); go_simp; (try with_reducible rfl)
          (try simp only [Act.put, List.setIfInBounds_toArray, List.set_cons_zero, List.set_cons_succ])
          refine wpAnyH_take (i := 2) (oi := ⟨some 70, _, _, _, _, _⟩) (v := ?_) rfl (by decide +kernel) (by decide +kernel) (by decide +kernel) (fun _ _ _ h => h) (Or.inl ⟨by rfl, ?_⟩) (by assumption) ?_
          rotate_left
          ·intro wq hSw; (try dsimp only at hSw); go_simp; (try with_reducible rfl)
          (try simp only [Act.put, List.setIfInBounds_toArray, List.set_cons_zero, List.set_cons_succ])
          refine wpAnyH_take (i := 3) (oi := ⟨some 71, _, _, _, _, _⟩) (v := ?_) rfl (by decide +kernel) (by decide +kernel) (by decide +kernel) (fun _ _ _ h => h) (Or.inl ⟨by rfl, ?_⟩) (by assumption) ?_
          rotate_left
          ·intro wq hSw; (try dsimp only at hSw); go_simp; (try with_reducible rfl)
          (try simp only [Act.put, List.setIfInBounds_toArray, List.set_cons_zero, List.set_cons_succ])
          refine wpAnyH_take (i := 4) (oi := ⟨some 72, _, _, _, _, _⟩) (v := ?_) rfl (by decide +kernel) (by decide +kernel) (by decide +kernel) (fun _ _ _ h => h) (Or.inl ⟨by rfl, ?_⟩) (by assumption) ?_
          rotate_left
          ·intro wq hSw; (try dsimp only at hSw); go_simp; (try with_reducible rfl)
          (try simp only [Act.put, List.setIfInBounds_toArray, List.set_cons_zero, List.set_cons_succ])
          refine wpAnyH_take (i := 5) (oi := ⟨some 73, _, _, _, _, _⟩) (v := ?_) rfl (by decide +kernel) (by decide +kernel) (by decide +kernel) (fun _ _ _ h => h) (Or.inl ⟨by rfl, ?_⟩) (by assumption) ?_
          rotate_left
          ·intro wq hSw; (try dsimp only at hSw); go_simp; (try with_reducible rfl)
          (try simp only [Act.put, List.setIfInBounds_toArray, List.set_cons_zero, List.set_cons_succ])
          refine wpAnyH_take (i := 6) (oi := ⟨some 74, _, _, _, _, _⟩) (v := ?_) rfl (by decide +kernel) (by decide +kernel) (by decide +kernel) (fun _ _ _ h => h) (Or.inl ⟨by rfl, ?_⟩) (by assumption) ?_
          rotate_left
          ·intro wq hSw; (try dsimp only at hSw); go_simp; (try with_reducible rfl)
          (try simp only [Act.put, List.setIfInBounds_toArray, List.set_cons_zero, List.set_cons_succ])
          refine wpAnyH_take (i := 7) (oi := ⟨some 75, _, _, _, _, _⟩) (v := ?_) rfl (by decide +kernel) (by decide +kernel) (by decide +kernel) (fun _ _ _ h => h) (Or.inl ⟨by rfl, ?_⟩) (by assumption) ?_
          rotate_left
          ·intro wq hSw; (try dsimp only at hSw); go_simp; (try with_reducible rfl)
          (try simp only [Act.put, List.setIfInBounds_toArray, List.set_cons_zero, List.set_cons_succ])
          refine wpAnyH_take (i := 8) (oi := ⟨some 76, _, _, _, _, _⟩) (v := ?_) rfl (by decide +kernel) (by decide +kernel) (by decide +kernel) (fun _ _ _ h => h) (Or.inl ⟨by rfl, ?_⟩) (by assumption) ?_
          rotate_left
          ·intro wq hSw; (try dsimp only at hSw); go_simp; (try with_reducible rfl)
          (try simp only [Act.put, List.setIfInBounds_toArray, List.set_cons_zero, List.set_cons_succ])
          refine wpAnyH_take (i := 9) (oi := ⟨some 77, _, _, _, _, _⟩) (v := ?_) rfl (by decide +kernel) (by decide +kernel) (by decide +kernel) (fun _ _ _ h => h) (Or.inl ⟨by rfl, ?_⟩) (by assumption) ?_
          rotate_left
          ·intro wq hSw; (try dsimp only at hSw); go_simp; (try with_reducible rfl)
          (try simp only [Act.put, List.setIfInBounds_toArray, List.set_cons_zero, List.set_cons_succ])
          refine wpAnyH_take (i := 10) (oi := ⟨some 78, _, _, _, _, _⟩) (v := ?_) rfl (by decide +kernel) (by decide +kernel) (by decide +kernel) (fun _ _ _ h => h) (Or.inl ⟨by rfl, ?_⟩) (by assumption) ?_
          rotate_left
          ·intro wq hSw; (try dsimp only at hSw); go_simp; (try with_reducible rfl)
          (try simp only [Act.put, List.setIfInBounds_toArray, List.set_cons_zero, List.set_cons_succ])
          refine wpAnyH_take (i := 11) (oi := ⟨some 79, _, _, _, _, _⟩) (v := ?_) rfl (by decide +kernel) (by decide +kernel) (by decide +kernel) (fun _ _ _ h => h) (Or.inl ⟨by rfl, ?_⟩) (by assumption) ?_
          rotate_left
          ·intro wq hSw; (try dsimp only at hSw); go_simp; (try with_reducible rfl)
          (try simp only [Act.put, List.setIfInBounds_toArray, List.set_cons_zero, List.set_cons_succ])
          refine wpAnyH_ready (rs := [12]) (by decide +kernel) (by simp) ?_
          refine AllReadyH.cons (i := 12) (o := ⟨some 80, _, _, _, _, _⟩) rfl (fun K hK => ?_) AllReadyH.nil
          go_simp
          go_at_call 18; refine Calls.mono (rcmp2_n (hzq.out.below kW) (hzr.out.zm.below kW) (by omega) (by omega)) ?_; rintro e wCkC0 ⟨rfl, kC0⟩; rw [hvm.out]
          have kW := grow_step kC0 kW
          try go_wp2_with fail
          refine hK.out _ _ ?_ ?_
          ·first | with_reducible exact trivial | ((try dsimp only); exact ⟨(Below.cell (p := ⟨cb, _, none⟩) kW hcr).trans g0, (Below.cell (p := ⟨cb, _, none⟩) kW hcr).trans g1, (Below.cell (p := ⟨cb, _, none⟩) kW hcr).trans d0, (Below.cell (p := ⟨cb, _, none⟩) kW hcr).trans d1⟩)
          clear hK K hHeld; intro hHeld
          (try simp only [Act.put, List.setIfInBounds_toArray, List.set_cons_zero, List.set_cons_succ])
          refine wpAnyH_take (i := 13) (oi := ⟨some 81, _, _, _, _, _⟩) (v := ?_) rfl (by decide +kernel) (by decide +kernel) (by decide +kernel) (fun _ _ _ h => h) (Or.inl ⟨by rfl, ?_⟩) (by assumption) ?_
          rotate_left
          ·intro wq hSw; (try dsimp only at hSw); go_simp; (try with_reducible rfl)
          (try simp only [Act.put, List.setIfInBounds_toArray, List.set_cons_zero, List.set_cons_succ])
          refine wpAnyH_take (i := 14) (oi := ⟨some 82, _, _, _, _, _⟩) (v := ?_) rfl (by decide +kernel) (by decide +kernel) (by decide +kernel) (fun _ _ _ h => h) (Or.inl ⟨by rfl, ?_⟩) (by assumption) ?_
          rotate_left
          ·intro wq hSw; (try dsimp only at hSw); go_simp; (try with_reducible rfl)
          (try simp only [Act.put, List.setIfInBounds_toArray, List.set_cons_zero, List.set_cons_succ])
          refine wpAnyH_done ?_ ?_ _
          ·decide +kernel
          clear g0 g1
          have kz := hide kW
          clear kW hHeld
          go_wp2_with fail
          go_meet
          case rel => exact ⟨rfl, kz⟩
        case rest =>
         obtain ⟨rfl, hcut⟩ := hcut
         have kq9 := hide (grow_step hcut.out kq.out)
         have yx9 := hide (yx8.out.below kq9.out)
         have yy9 := hide (yy8.out.below kq9.out)
         have hx9 := hide (hx8.out.below kq9.out)
         have hy9 := hide (hy8.out.below kq9.out)
         have e0 := (Below.cell (p := ⟨cb, _, none⟩) hcut.out hcr).trans d0
         have e1 := (Below.cell (p := ⟨cb, _, none⟩) hcut.out hcr).trans d1
         have hcb := Nat.lt_of_lt_of_le hcr hcut.out.size
         have hzc := hide (hzr.out.zm.below hcut.out)
         clear hcut d0 d1 kq
         generalize wc = w9 at *
         obtain ⟨v1, hv1⟩ : ∃ v1, cmpI x cn = v1 := ⟨_, rfl⟩
         obtain ⟨v2, hv2⟩ : ∃ v2, cmpI (x + p) cn = v2 := ⟨_, rfl⟩
         have h1 := cmpI_cases x cn
         have h2 := cmpI_cases (x + p) cn
         rw [hv1] at h1
         rw [hv2] at h2
         replace hv1 := hide hv1
         replace hv2 := hide hv2
         go_upto_if 24 with (fail)
         go_cut [98] (fun v98 wc => ∃ bq : Bool, v98 = .bool bq ∧ (bq = false → ¬ (x < cn ∧ cn ≤ x + p)) ∧ Hid (Below w9.heap.size w9 wc))
         case first =>
          rcases h1 with ⟨rfl, h1⟩ | ⟨rfl, h1⟩ | ⟨rfl, h1⟩
          ·rcases h2 with ⟨rfl, h2⟩ | ⟨rfl, h2⟩ | ⟨rfl, h2⟩
           ·go_upto_region 24 with (fail)
            refine wp_region_held_drew (S := (fun w' => w'.cell? ⟨bx, 0, none⟩ = some (.bool z.s) ∧ w'.cell? ⟨bx, 1, none⟩ = some (.slice z.a z.l z.c) ∧ w'.cell? ⟨b5, 0, none⟩ = some (.bool sB) ∧ w'.cell? ⟨b5, 1, none⟩ = some (.slice aB lB cB) ∧ w'.cell? ⟨cb, off + n * 2, none⟩ = some (.bool zc.s) ∧ w'.cell? ⟨cb, off + n * 2 + 1, none⟩ = some (.slice zc.a zc.l zc.c))) (by kernel_rfl) (⟨(yx9.out.below (grow_drew (Below.refl _ _))).c0, (yx9.out.below (grow_drew (Below.refl _ _))).c1, (yy9.out.below (grow_drew (Below.refl _ _))).c0, (yy9.out.below (grow_drew (Below.refl _ _))).c1, (Below.cell (p := ⟨cb, _, none⟩) (grow_drew (Below.refl _ _)) hcb).trans e0, (Below.cell (p := ⟨cb, _, none⟩) (grow_drew (Below.refl _ _)) hcb).trans e1⟩) (fun hHeld => ?_)
            show wpAnyH _ _ _ _ _ 16 _ _ _
            have kW := grow_drew (Below.refl w9.heap.size w9)
            generalize w9.drew = wQ at *
            refine wpAnyH_take (i := 0) (oi := ⟨some 83, _, _, _, _, _⟩) (v := ?_) rfl (by decide +kernel) (by decide +kernel) (by decide +kernel) (fun _ _ _ h => h) (Or.inl ⟨by rfl, ?_⟩) (by assumption) ?_
            rotate_left
            ·intro wq hSw; (try dsimp only at hSw); go_simp; (try with_reducible rfl)
            (try simp only [Act.put, List.setIfInBounds_toArray, List.set_cons_zero, List.set_cons_succ])
            refine wpAnyH_take (i := 1) (oi := ⟨some 84, _, _, _, _, _⟩) (v := ?_) rfl (by decide +kernel) (by decide +kernel) (by decide +kernel) (fun _ _ _ h => h) (Or.inl ⟨by rfl, ?_⟩) (by assumption) ?_
            rotate_left
            ·intro wq hSw; (try dsimp only at hSw); go_simp; (try with_reducible rfl)
            (try simp only [Act.put, List.setIfInBounds_toArray, List.set_cons_zero, List.set_cons_succ])
            refine wpAnyH_take (i := 2) (oi := ⟨some 85, _, _, _, _, _⟩) (v := ?_) rfl (by decide +kernel) (by decide +kernel) (by decide +kernel) (fun _ _ _ h => h) (Or.inl ⟨by rfl, ?_⟩) (by assumption) ?_
            rotate_left
            ·intro wq hSw; (try dsimp only at hSw); go_simp; (try with_reducible rfl)
            (try simp only [Act.put, List.setIfInBounds_toArray, List.set_cons_zero, List.set_cons_succ])
            refine wpAnyH_take (i := 3) (oi := ⟨some 86, _, _, _, _, _⟩) (v := ?_) rfl (by decide +kernel) (by decide +kernel) (by decide +kernel) (fun _ _ _ h => h) (Or.inl ⟨by rfl, ?_⟩) (by assumption) ?_
            rotate_left
            ·intro wq hSw; (try dsimp only at hSw); go_simp; (try with_reducible rfl)
            (try simp only [Act.put, List.setIfInBounds_toArray, List.set_cons_zero, List.set_cons_succ])
            refine wpAnyH_take (i := 4) (oi := ⟨some 87, _, _, _, _, _⟩) (v := ?_) rfl (by decide +kernel) (by decide +kernel) (by decide +kernel) (fun _ _ _ h => h) (Or.inl ⟨by rfl, ?_⟩) (by assumption) ?_
            rotate_left
            ·intro wq hSw; (try dsimp only at hSw); go_simp; (try with_reducible rfl)
            (try simp only [Act.put, List.setIfInBounds_toArray, List.set_cons_zero, List.set_cons_succ])
            refine wpAnyH_ready (rs := [5]) (by decide +kernel) (by simp) ?_
            refine AllReadyH.cons (i := 5) (o := ⟨some 88, _, _, _, _, _⟩) rfl (fun K hK => ?_) AllReadyH.nil
            go_simp
            go_at_call 18; refine Calls.mono (rcmp2_n (hx9.out.below kW) (hzc.out.below kW) (by omega) (by omega)) ?_; rintro e wCkC1 ⟨rfl, kC1⟩; rw [hv1.out]
            have kW := grow_step kC1 kW
            try go_wp2_with fail
            refine hK.out _ _ ?_ ?_
            ·first | with_reducible exact trivial | ((try dsimp only); exact ⟨(yx9.out.below kW).c0, (yx9.out.below kW).c1, (yy9.out.below kW).c0, (yy9.out.below kW).c1, (Below.cell (p := ⟨cb, _, none⟩) kW hcb).trans e0, (Below.cell (p := ⟨cb, _, none⟩) kW hcb).trans e1⟩)
            clear hK K hHeld; intro hHeld
            (try simp only [Act.put, List.setIfInBounds_toArray, List.set_cons_zero, List.set_cons_succ])
            refine wpAnyH_take (i := 6) (oi := ⟨some 89, _, _, _, _, _⟩) (v := ?_) rfl (by decide +kernel) (by decide +kernel) (by decide +kernel) (fun _ _ _ h => h) (Or.inl ⟨by rfl, ?_⟩) (by assumption) ?_
            rotate_left
            ·intro wq hSw; (try dsimp only at hSw); go_simp; (try with_reducible rfl)
            (try simp only [Act.put, List.setIfInBounds_toArray, List.set_cons_zero, List.set_cons_succ])
            refine wpAnyH_take (i := 7) (oi := ⟨some 90, _, _, _, _, _⟩) (v := ?_) rfl (by decide +kernel) (by decide +kernel) (by decide +kernel) (fun _ _ _ h => h) (Or.inl ⟨by rfl, ?_⟩) (by assumption) ?_
            rotate_left
            ·intro wq hSw; (try dsimp only at hSw); go_simp; (try with_reducible rfl)
            (try simp only [Act.put, List.setIfInBounds_toArray, List.set_cons_zero, List.set_cons_succ])
            refine wpAnyH_take (i := 8) (oi := ⟨some 91, _, _, _, _, _⟩) (v := ?_) rfl (by decide +kernel) (by decide +kernel) (by decide +kernel) (fun _ _ _ h => h) (Or.inl ⟨by rfl, ?_⟩) (by assumption) ?_
            rotate_left
            ·intro wq hSw; (try dsimp only at hSw); go_simp; (try with_reducible rfl)
            (try simp only [Act.put, List.setIfInBounds_toArray, List.set_cons_zero, List.set_cons_succ])
            refine wpAnyH_take (i := 9) (oi := ⟨some 92, _, _, _, _, _⟩) (v := ?_) rfl (by decide +kernel) (by decide +kernel) (by decide +kernel) (fun _ _ _ h => h) (Or.inl ⟨by rfl, ?_⟩) (by assumption) ?_
            rotate_left
            ·intro wq hSw; (try dsimp only at hSw); go_simp; (try with_reducible rfl)
            (try simp only [Act.put, List.setIfInBounds_toArray, List.set_cons_zero, List.set_cons_succ])
            refine wpAnyH_take (i := 10) (oi := ⟨some 93, _, _, _, _, _⟩) (v := ?_) rfl (by decide +kernel) (by decide +kernel) (by decide +kernel) (fun _ _ _ h => h) (Or.inl ⟨by rfl, ?_⟩) (by assumption) ?_
            rotate_left
            ·intro wq hSw; (try dsimp only at hSw); go_simp; (try with_reducible rfl)
            (try simp only [Act.put, List.setIfInBounds_toArray, List.set_cons_zero, List.set_cons_succ])
            refine wpAnyH_take (i := 11) (oi := ⟨some 94, _, _, _, _, _⟩) (v := ?_) rfl (by decide +kernel) (by decide +kernel) (by decide +kernel) (fun _ _ _ h => h) (Or.inl ⟨by rfl, ?_⟩) (by assumption) ?_
            rotate_left
            ·intro wq hSw; (try dsimp only at hSw); go_simp; (try with_reducible rfl)
            (try simp only [Act.put, List.setIfInBounds_toArray, List.set_cons_zero, List.set_cons_succ])
            refine wpAnyH_take (i := 12) (oi := ⟨some 95, _, _, _, _, _⟩) (v := ?_) rfl (by decide +kernel) (by decide +kernel) (by decide +kernel) (fun _ _ _ h => h) (Or.inl ⟨by rfl, ?_⟩) (by assumption) ?_
            rotate_left
            ·intro wq hSw; (try dsimp only at hSw); go_simp; (try with_reducible rfl)
            (try simp only [Act.put, List.setIfInBounds_toArray, List.set_cons_zero, List.set_cons_succ])
            refine wpAnyH_ready (rs := [13]) (by decide +kernel) (by simp) ?_
            refine AllReadyH.cons (i := 13) (o := ⟨some 96, _, _, _, _, _⟩) rfl (fun K hK => ?_) AllReadyH.nil
            go_simp
            go_at_call 18; refine Calls.mono (rcmp2_n (hy9.out.zm.below kW) (hzc.out.below kW) (by omega) (by omega)) ?_; rintro e wCkC2 ⟨rfl, kC2⟩; rw [hv2.out]
            have kW := grow_step kC2 kW
            try go_wp2_with fail
            refine hK.out _ _ ?_ ?_
            ·first | with_reducible exact trivial | ((try dsimp only); exact ⟨(yx9.out.below kW).c0, (yx9.out.below kW).c1, (yy9.out.below kW).c0, (yy9.out.below kW).c1, (Below.cell (p := ⟨cb, _, none⟩) kW hcb).trans e0, (Below.cell (p := ⟨cb, _, none⟩) kW hcb).trans e1⟩)
            clear hK K hHeld; intro hHeld
            (try simp only [Act.put, List.setIfInBounds_toArray, List.set_cons_zero, List.set_cons_succ])
            refine wpAnyH_take (i := 14) (oi := ⟨some 97, _, _, _, _, _⟩) (v := ?_) rfl (by decide +kernel) (by decide +kernel) (by decide +kernel) (fun _ _ _ h => h) (Or.inl ⟨by rfl, ?_⟩) (by assumption) ?_
            rotate_left
            ·intro wq hSw; (try dsimp only at hSw); go_simp; (try with_reducible rfl)
            (try simp only [Act.put, List.setIfInBounds_toArray, List.set_cons_zero, List.set_cons_succ])
            refine wpAnyH_take (i := 15) (oi := ⟨some 98, _, _, _, _, _⟩) (v := ?_) rfl (by decide +kernel) (by decide +kernel) (by decide +kernel) (fun _ _ _ h => h) (Or.inl ⟨by rfl, ?_⟩) (by assumption) ?_
            rotate_left
            ·intro wq hSw; (try dsimp only at hSw); go_simp; (try with_reducible rfl)
            (try simp only [Act.put, List.setIfInBounds_toArray, List.set_cons_zero, List.set_cons_succ])
            refine wpAnyH_done ?_ ?_ _
            ·decide +kernel
            have kz := hide kW
            clear kW hHeld e0 e1
            go_wp2_with fail
            go_meet
            case rel => exact ⟨false, rfl, fun _ => by omega, kz⟩
           ·go_upto_region 24 with (fail)
            refine wp_region_held_drew (S := (fun w' => w'.cell? ⟨bx, 0, none⟩ = some (.bool z.s) ∧ w'.cell? ⟨bx, 1, none⟩ = some (.slice z.a z.l z.c) ∧ w'.cell? ⟨b5, 0, none⟩ = some (.bool sB) ∧ w'.cell? ⟨b5, 1, none⟩ = some (.slice aB lB cB) ∧ w'.cell? ⟨cb, off + n * 2, none⟩ = some (.bool zc.s) ∧ w'.cell? ⟨cb, off + n * 2 + 1, none⟩ = some (.slice zc.a zc.l zc.c))) (by kernel_rfl) (⟨(yx9.out.below (grow_drew (Below.refl _ _))).c0, (yx9.out.below (grow_drew (Below.refl _ _))).c1, (yy9.out.below (grow_drew (Below.refl _ _))).c0, (yy9.out.below (grow_drew (Below.refl _ _))).c1, (Below.cell (p := ⟨cb, _, none⟩) (grow_drew (Below.refl _ _)) hcb).trans e0, (Below.cell (p := ⟨cb, _, none⟩) (grow_drew (Below.refl _ _)) hcb).trans e1⟩) (fun hHeld => ?_)
            show wpAnyH _ _ _ _ _ 16 _ _ _
            have kW := grow_drew (Below.refl w9.heap.size w9)
            generalize w9.drew = wQ at *
            refine wpAnyH_take (i := 0) (oi := ⟨some 83, _, _, _, _, _⟩) (v := ?_) rfl (by decide +kernel) (by decide +kernel) (by decide +kernel) (fun _ _ _ h => h) (Or.inl ⟨by rfl, ?_⟩) (by assumption) ?_
            rotate_left
            ·intro wq hSw; (try dsimp only at hSw); go_simp; (try with_reducible rfl)
            (try simp only [Act.put, List.setIfInBounds_toArray, List.set_cons_zero, List.set_cons_succ])
            refine wpAnyH_take (i := 1) (oi := ⟨some 84, _, _, _, _, _⟩) (v := ?_) rfl (by decide +kernel) (by decide +kernel) (by decide +kernel) (fun _ _ _ h => h) (Or.inl ⟨by rfl, ?_⟩) (by assumption) ?_
            rotate_left
            ·intro wq hSw; (try dsimp only at hSw); go_simp; (try with_reducible rfl)
            (try simp only [Act.put, List.setIfInBounds_toArray, List.set_cons_zero, List.set_cons_succ])
            refine wpAnyH_take (i := 2) (oi := ⟨some 85, _, _, _, _, _⟩) (v := ?_) rfl (by decide +kernel) (by decide +kernel) (by decide +kernel) (fun _ _ _ h => h) (Or.inl ⟨by rfl, ?_⟩) (by assumption) ?_
            rotate_left
            ·intro wq hSw; (try dsimp only at hSw); go_simp; (try with_reducible rfl)
            (try simp only [Act.put, List.setIfInBounds_toArray, List.set_cons_zero, List.set_cons_succ])
            refine wpAnyH_take (i := 3) (oi := ⟨some 86, _, _, _, _, _⟩) (v := ?_) rfl (by decide +kernel) (by decide +kernel) (by decide +kernel) (fun _ _ _ h => h) (Or.inl ⟨by rfl, ?_⟩) (by assumption) ?_
            rotate_left
            ·intro wq hSw; (try dsimp only at hSw); go_simp; (try with_reducible rfl)
            (try simp only [Act.put, List.setIfInBounds_toArray, List.set_cons_zero, List.set_cons_succ])
            refine wpAnyH_take (i := 4) (oi := ⟨some 87, _, _, _, _, _⟩) (v := ?_) rfl (by decide +kernel) (by decide +kernel) (by decide +kernel) (fun _ _ _ h => h) (Or.inl ⟨by rfl, ?_⟩) (by assumption) ?_
            rotate_left
            ·intro wq hSw; (try dsimp only at hSw); go_simp; (try with_reducible rfl)
            (try simp only [Act.put, List.setIfInBounds_toArray, List.set_cons_zero, List.set_cons_succ])
            refine wpAnyH_ready (rs := [5]) (by decide +kernel) (by simp) ?_
            refine AllReadyH.cons (i := 5) (o := ⟨some 88, _, _, _, _, _⟩) rfl (fun K hK => ?_) AllReadyH.nil
            go_simp
            go_at_call 18; refine Calls.mono (rcmp2_n (hx9.out.below kW) (hzc.out.below kW) (by omega) (by omega)) ?_; rintro e wCkC1 ⟨rfl, kC1⟩; rw [hv1.out]
            have kW := grow_step kC1 kW
            try go_wp2_with fail
            refine hK.out _ _ ?_ ?_
            ·first | with_reducible exact trivial | ((try dsimp only); exact ⟨(yx9.out.below kW).c0, (yx9.out.below kW).c1, (yy9.out.below kW).c0, (yy9.out.below kW).c1, (Below.cell (p := ⟨cb, _, none⟩) kW hcb).trans e0, (Below.cell (p := ⟨cb, _, none⟩) kW hcb).trans e1⟩)
            clear hK K hHeld; intro hHeld
            (try simp only [Act.put, List.setIfInBounds_toArray, List.set_cons_zero, List.set_cons_succ])
            refine wpAnyH_take (i := 6) (oi := ⟨some 89, _, _, _, _, _⟩) (v := ?_) rfl (by decide +kernel) (by decide +kernel) (by decide +kernel) (fun _ _ _ h => h) (Or.inl ⟨by rfl, ?_⟩) (by assumption) ?_
            rotate_left
            ·intro wq hSw; (try dsimp only at hSw); go_simp; (try with_reducible rfl)
            (try simp only [Act.put, List.setIfInBounds_toArray, List.set_cons_zero, List.set_cons_succ])
            refine wpAnyH_take (i := 7) (oi := ⟨some 90, _, _, _, _, _⟩) (v := ?_) rfl (by decide +kernel) (by decide +kernel) (by decide +kernel) (fun _ _ _ h => h) (Or.inl ⟨by rfl, ?_⟩) (by assumption) ?_
            rotate_left
            ·intro wq hSw; (try dsimp only at hSw); go_simp; (try with_reducible rfl)
            (try simp only [Act.put, List.setIfInBounds_toArray, List.set_cons_zero, List.set_cons_succ])
            refine wpAnyH_take (i := 8) (oi := ⟨some 91, _, _, _, _, _⟩) (v := ?_) rfl (by decide +kernel) (by decide +kernel) (by decide +kernel) (fun _ _ _ h => h) (Or.inl ⟨by rfl, ?_⟩) (by assumption) ?_
            rotate_left
            ·intro wq hSw; (try dsimp only at hSw); go_simp; (try with_reducible rfl)
            (try simp only [Act.put, List.setIfInBounds_toArray, List.set_cons_zero, List.set_cons_succ])
            refine wpAnyH_take (i := 9) (oi := ⟨some 92, _, _, _, _, _⟩) (v := ?_) rfl (by decide +kernel) (by decide +kernel) (by decide +kernel) (fun _ _ _ h => h) (Or.inl ⟨by rfl, ?_⟩) (by assumption) ?_
            rotate_left
            ·intro wq hSw; (try dsimp only at hSw); go_simp; (try with_reducible rfl)
            (try simp only [Act.put, List.setIfInBounds_toArray, List.set_cons_zero, List.set_cons_succ])
            refine wpAnyH_take (i := 10) (oi := ⟨some 93, _, _, _, _, _⟩) (v := ?_) rfl (by decide +kernel) (by decide +kernel) (by decide +kernel) (fun _ _ _ h => h) (Or.inl ⟨by rfl, ?_⟩) (by assumption) ?_
            rotate_left
            ·intro wq hSw; (try dsimp only at hSw); go_simp; (try with_reducible rfl)
            (try simp only [Act.put, List.setIfInBounds_toArray, List.set_cons_zero, List.set_cons_succ])
            refine wpAnyH_take (i := 11) (oi := ⟨some 94, _, _, _, _, _⟩) (v := ?_) rfl (by decide +kernel) (by decide +kernel) (by decide +kernel) (fun _ _ _ h => h) (Or.inl ⟨by rfl, ?_⟩) (by assumption) ?_
            rotate_left
            ·intro wq hSw; (try dsimp only at hSw); go_simp; (try with_reducible rfl)
            (try simp only [Act.put, List.setIfInBounds_toArray, List.set_cons_zero, List.set_cons_succ])
            refine wpAnyH_take (i := 12) (oi := ⟨some 95, _, _, _, _, _⟩) (v := ?_) rfl (by decide +kernel) (by decide +kernel) (by decide +kernel) (fun _ _ _ h => h) (Or.inl ⟨by rfl, ?_⟩) (by assumption) ?_
            rotate_left
            ·intro wq hSw; (try dsimp only at hSw); go_simp; (try with_reducible rfl)
            (try simp only [Act.put, List.setIfInBounds_toArray, List.set_cons_zero, List.set_cons_succ])
            refine wpAnyH_ready (rs := [13]) (by decide +kernel) (by simp) ?_
            refine AllReadyH.cons (i := 13) (o := ⟨some 96, _, _, _, _, _⟩) rfl (fun K hK => ?_) AllReadyH.nil
            go_simp
            go_at_call 18; refine Calls.mono (rcmp2_n (hy9.out.zm.below kW) (hzc.out.below kW) (by omega) (by omega)) ?_; rintro e wCkC2 ⟨rfl, kC2⟩; rw [hv2.out]
            have kW := grow_step kC2 kW
            try go_wp2_with fail
            refine hK.out _ _ ?_ ?_
            ·first | with_reducible exact trivial | ((try dsimp only); exact ⟨(yx9.out.below kW).c0, (yx9.out.below kW).c1, (yy9.out.below kW).c0, (yy9.out.below kW).c1, (Below.cell (p := ⟨cb, _, none⟩) kW hcb).trans e0, (Below.cell (p := ⟨cb, _, none⟩) kW hcb).trans e1⟩)
            clear hK K hHeld; intro hHeld
            (try simp only [Act.put, List.setIfInBounds_toArray, List.set_cons_zero, List.set_cons_succ])
            refine wpAnyH_take (i := 14) (oi := ⟨some 97, _, _, _, _, _⟩) (v := ?_) rfl (by decide +kernel) (by decide +kernel) (by decide +kernel) (fun _ _ _ h => h) (Or.inl ⟨by rfl, ?_⟩) (by assumption) ?_
            rotate_left
            ·intro wq hSw; (try dsimp only at hSw); go_simp; (try with_reducible rfl)
            (try simp only [Act.put, List.setIfInBounds_toArray, List.set_cons_zero, List.set_cons_succ])
            refine wpAnyH_take (i := 15) (oi := ⟨some 98, _, _, _, _, _⟩) (v := ?_) rfl (by decide +kernel) (by decide +kernel) (by decide +kernel) (fun _ _ _ h => h) (Or.inl ⟨by rfl, ?_⟩) (by assumption) ?_
            rotate_left
            ·intro wq hSw; (try dsimp only at hSw); go_simp; (try with_reducible rfl)
            (try simp only [Act.put, List.setIfInBounds_toArray, List.set_cons_zero, List.set_cons_succ])
            refine wpAnyH_done ?_ ?_ _
            ·decide +kernel
            have kz := hide kW
            clear kW hHeld e0 e1
            go_wp2_with fail
            go_meet
            case rel => exact ⟨true, rfl, fun h => absurd h (by decide), kz⟩
           ·go_upto_region 24 with (fail)
            refine wp_region_held_drew (S := (fun w' => w'.cell? ⟨bx, 0, none⟩ = some (.bool z.s) ∧ w'.cell? ⟨bx, 1, none⟩ = some (.slice z.a z.l z.c) ∧ w'.cell? ⟨b5, 0, none⟩ = some (.bool sB) ∧ w'.cell? ⟨b5, 1, none⟩ = some (.slice aB lB cB) ∧ w'.cell? ⟨cb, off + n * 2, none⟩ = some (.bool zc.s) ∧ w'.cell? ⟨cb, off + n * 2 + 1, none⟩ = some (.slice zc.a zc.l zc.c))) (by kernel_rfl) (⟨(yx9.out.below (grow_drew (Below.refl _ _))).c0, (yx9.out.below (grow_drew (Below.refl _ _))).c1, (yy9.out.below (grow_drew (Below.refl _ _))).c0, (yy9.out.below (grow_drew (Below.refl _ _))).c1, (Below.cell (p := ⟨cb, _, none⟩) (grow_drew (Below.refl _ _)) hcb).trans e0, (Below.cell (p := ⟨cb, _, none⟩) (grow_drew (Below.refl _ _)) hcb).trans e1⟩) (fun hHeld => ?_)
            show wpAnyH _ _ _ _ _ 16 _ _ _
            have kW := grow_drew (Below.refl w9.heap.size w9)
            generalize w9.drew = wQ at *
            refine wpAnyH_take (i := 0) (oi := ⟨some 83, _, _, _, _, _⟩) (v := ?_) rfl (by decide +kernel) (by decide +kernel) (by decide +kernel) (fun _ _ _ h => h) (Or.inl ⟨by rfl, ?_⟩) (by assumption) ?_
            rotate_left
            ·intro wq hSw; (try dsimp only at hSw); go_simp; (try with_reducible rfl)
            (try simp only [Act.put, List.setIfInBounds_toArray, List.set_cons_zero, List.set_cons_succ])
            refine wpAnyH_take (i := 1) (oi := ⟨some 84, _, _, _, _, _⟩) (v := ?_) rfl (by decide +kernel) (by decide +kernel) (by decide +kernel) (fun _ _ _ h => h) (Or.inl ⟨by rfl, ?_⟩) (by assumption) ?_
            rotate_left
            ·intro wq hSw; (try dsimp only at hSw); go_simp; (try with_reducible rfl)
            (try simp only [Act.put, List.setIfInBounds_toArray, List.set_cons_zero, List.set_cons_succ])
            refine wpAnyH_take (i := 2) (oi := ⟨some 85, _, _, _, _, _⟩) (v := ?_) rfl (by decide +kernel) (by decide +kernel) (by decide +kernel) (fun _ _ _ h => h) (Or.inl ⟨by rfl, ?_⟩) (by assumption) ?_
            rotate_left
            ·intro wq hSw; (try dsimp only at hSw); go_simp; (try with_reducible rfl)
            (try simp only [Act.put, List.setIfInBounds_toArray, List.set_cons_zero, List.set_cons_succ])
            refine wpAnyH_take (i := 3) (oi := ⟨some 86, _, _, _, _, _⟩) (v := ?_) rfl (by decide +kernel) (by decide +kernel) (by decide +kernel) (fun _ _ _ h => h) (Or.inl ⟨by rfl, ?_⟩) (by assumption) ?_
            rotate_left
            ·intro wq hSw; (try dsimp only at hSw); go_simp; (try with_reducible rfl)
            (try simp only [Act.put, List.setIfInBounds_toArray, List.set_cons_zero, List.set_cons_succ])
            refine wpAnyH_take (i := 4) (oi := ⟨some 87, _, _, _, _, _⟩) (v := ?_) rfl (by decide +kernel) (by decide +kernel) (by decide +kernel) (fun _ _ _ h => h) (Or.inl ⟨by rfl, ?_⟩) (by assumption) ?_
            rotate_left
            ·intro wq hSw; (try dsimp only at hSw); go_simp; (try with_reducible rfl)
            (try simp only [Act.put, List.setIfInBounds_toArray, List.set_cons_zero, List.set_cons_succ])
            refine wpAnyH_ready (rs := [5]) (by decide +kernel) (by simp) ?_
            refine AllReadyH.cons (i := 5) (o := ⟨some 88, _, _, _, _, _⟩) rfl (fun K hK => ?_) AllReadyH.nil
            go_simp
            go_at_call 18; refine Calls.mono (rcmp2_n (hx9.out.below kW) (hzc.out.below kW) (by omega) (by omega)) ?_; rintro e wCkC1 ⟨rfl, kC1⟩; rw [hv1.out]
            have kW := grow_step kC1 kW
            try go_wp2_with fail
            refine hK.out _ _ ?_ ?_
            ·first | with_reducible exact trivial | ((try dsimp only); exact ⟨(yx9.out.below kW).c0, (yx9.out.below kW).c1, (yy9.out.below kW).c0, (yy9.out.below kW).c1, (Below.cell (p := ⟨cb, _, none⟩) kW hcb).trans e0, (Below.cell (p := ⟨cb, _, none⟩) kW hcb).trans e1⟩)
            clear hK K hHeld; intro hHeld
            (try simp only [Act.put, List.setIfInBounds_toArray, List.set_cons_zero, List.set_cons_succ])
            refine wpAnyH_take (i := 6) (oi := ⟨some 89, _, _, _, _, _⟩) (v := ?_) rfl (by decide +kernel) (by decide +kernel) (by decide +kernel) (fun _ _ _ h => h) (Or.inl ⟨by rfl, ?_⟩) (by assumption) ?_
            rotate_left
            ·intro wq hSw; (try dsimp only at hSw); go_simp; (try with_reducible rfl)
            (try simp only [Act.put, List.setIfInBounds_toArray, List.set_cons_zero, List.set_cons_succ])
            refine wpAnyH_take (i := 7) (oi := ⟨some 90, _, _, _, _, _⟩) (v := ?_) rfl (by decide +kernel) (by decide +kernel) (by decide +kernel) (fun _ _ _ h => h) (Or.inl ⟨by rfl, ?_⟩) (by assumption) ?_
            rotate_left
            ·intro wq hSw; (try dsimp only at hSw); go_simp; (try with_reducible rfl)
            (try simp only [Act.put, List.setIfInBounds_toArray, List.set_cons_zero, List.set_cons_succ])
            refine wpAnyH_take (i := 8) (oi := ⟨some 91, _, _, _, _, _⟩) (v := ?_) rfl (by decide +kernel) (by decide +kernel) (by decide +kernel) (fun _ _ _ h => h) (Or.inl ⟨by rfl, ?_⟩) (by assumption) ?_
            rotate_left
            ·intro wq hSw; (try dsimp only at hSw); go_simp; (try with_reducible rfl)
            (try simp only [Act.put, List.setIfInBounds_toArray, List.set_cons_zero, List.set_cons_succ])
            refine wpAnyH_take (i := 9) (oi := ⟨some 92, _, _, _, _, _⟩) (v := ?_) rfl (by decide +kernel) (by decide +kernel) (by decide +kernel) (fun _ _ _ h => h) (Or.inl ⟨by rfl, ?_⟩) (by assumption) ?_
            rotate_left
            ·intro wq hSw; (try dsimp only at hSw); go_simp; (try with_reducible rfl)
            (try simp only [Act.put, List.setIfInBounds_toArray, List.set_cons_zero, List.set_cons_succ])
            refine wpAnyH_take (i := 10) (oi := ⟨some 93, _, _, _, _, _⟩) (v := ?_) rfl (by decide +kernel) (by decide +kernel) (by decide +kernel) (fun _ _ _ h => h) (Or.inl ⟨by rfl, ?_⟩) (by assumption) ?_
            rotate_left
            ·intro wq hSw; (try dsimp only at hSw); go_simp; (try with_reducible rfl)
            (try simp only [Act.put, List.setIfInBounds_toArray, List.set_cons_zero, List.set_cons_succ])
            refine wpAnyH_take (i := 11) (oi := ⟨some 94, _, _, _, _, _⟩) (v := ?_) rfl (by decide +kernel) (by decide +kernel) (by decide +kernel) (fun _ _ _ h => h) (Or.inl ⟨by rfl, ?_⟩) (by assumption) ?_
            rotate_left
            ·intro wq hSw; (try dsimp only at hSw); go_simp; (try with_reducible rfl)
            (try simp only [Act.put, List.setIfInBounds_toArray, List.set_cons_zero, List.set_cons_succ])
            refine wpAnyH_take (i := 12) (oi := ⟨some 95, _, _, _, _, _⟩) (v := ?_) rfl (by decide +kernel) (by decide +kernel) (by decide +kernel) (fun _ _ _ h => h) (Or.inl ⟨by rfl, ?_⟩) (by assumption) ?_
            rotate_left
            ·intro wq hSw; (try dsimp only at hSw); go_simp; (try with_reducible rfl)
            (try simp only [Act.put, List.setIfInBounds_toArray, List.set_cons_zero, List.set_cons_succ])
            refine wpAnyH_ready (rs := [13]) (by decide +kernel) (by simp) ?_
            refine AllReadyH.cons (i := 13) (o := ⟨some 96, _, _, _, _, _⟩) rfl (fun K hK => ?_) AllReadyH.nil
            go_simp
            go_at_call 18; refine Calls.mono (rcmp2_n (hy9.out.zm.below kW) (hzc.out.below kW) (by omega) (by omega)) ?_; rintro e wCkC2 ⟨rfl, kC2⟩; rw [hv2.out]
            have kW := grow_step kC2 kW
            try go_wp2_with fail
            refine hK.out _ _ ?_ ?_
            ·first | with_reducible exact trivial | ((try dsimp only); exact ⟨(yx9.out.below kW).c0, (yx9.out.below kW).c1, (yy9.out.below kW).c0, (yy9.out.below kW).c1, (Below.cell (p := ⟨cb, _, none⟩) kW hcb).trans e0, (Below.cell (p := ⟨cb, _, none⟩) kW hcb).trans e1⟩)
            clear hK K hHeld; intro hHeld
            (try simp only [Act.put, List.setIfInBounds_toArray, List.set_cons_zero, List.set_cons_succ])
            refine wpAnyH_take (i := 14) (oi := ⟨some 97, _, _, _, _, _⟩) (v := ?_) rfl (by decide +kernel) (by decide +kernel) (by decide +kernel) (fun _ _ _ h => h) (Or.inl ⟨by rfl, ?_⟩) (by assumption) ?_
            rotate_left
            ·intro wq hSw; (try dsimp only at hSw); go_simp; (try with_reducible rfl)
            (try simp only [Act.put, List.setIfInBounds_toArray, List.set_cons_zero, List.set_cons_succ])
            refine wpAnyH_take (i := 15) (oi := ⟨some 98, _, _, _, _, _⟩) (v := ?_) rfl (by decide +kernel) (by decide +kernel) (by decide +kernel) (fun _ _ _ h => h) (Or.inl ⟨by rfl, ?_⟩) (by assumption) ?_
            rotate_left
            ·intro wq hSw; (try dsimp only at hSw); go_simp; (try with_reducible rfl)
            (try simp only [Act.put, List.setIfInBounds_toArray, List.set_cons_zero, List.set_cons_succ])
            refine wpAnyH_done ?_ ?_ _
            ·decide +kernel
            have kz := hide kW
            clear kW hHeld e0 e1
            go_wp2_with fail
            go_meet
            case rel => exact ⟨true, rfl, fun h => absurd h (by decide), kz⟩
          ·go_upto_region 24 with (fail)
           refine wp_region_held_drew (S := (fun w' => w'.cell? ⟨bx, 0, none⟩ = some (.bool z.s) ∧ w'.cell? ⟨bx, 1, none⟩ = some (.slice z.a z.l z.c) ∧ w'.cell? ⟨b5, 0, none⟩ = some (.bool sB) ∧ w'.cell? ⟨b5, 1, none⟩ = some (.slice aB lB cB) ∧ w'.cell? ⟨cb, off + n * 2, none⟩ = some (.bool zc.s) ∧ w'.cell? ⟨cb, off + n * 2 + 1, none⟩ = some (.slice zc.a zc.l zc.c))) (by kernel_rfl) (⟨(yx9.out.below (grow_drew (Below.refl _ _))).c0, (yx9.out.below (grow_drew (Below.refl _ _))).c1, (yy9.out.below (grow_drew (Below.refl _ _))).c0, (yy9.out.below (grow_drew (Below.refl _ _))).c1, (Below.cell (p := ⟨cb, _, none⟩) (grow_drew (Below.refl _ _)) hcb).trans e0, (Below.cell (p := ⟨cb, _, none⟩) (grow_drew (Below.refl _ _)) hcb).trans e1⟩) (fun hHeld => ?_)
           show wpAnyH _ _ _ _ _ 16 _ _ _
           have kW := grow_drew (Below.refl w9.heap.size w9)
           generalize w9.drew = wQ at *
           refine wpAnyH_take (i := 0) (oi := ⟨some 83, _, _, _, _, _⟩) (v := ?_) rfl (by decide +kernel) (by decide +kernel) (by decide +kernel) (fun _ _ _ h => h) (Or.inl ⟨by rfl, ?_⟩) (by assumption) ?_
           rotate_left
           ·intro wq hSw; (try dsimp only at hSw); go_simp; (try with_reducible rfl)
           (try simp only [Act.put, List.setIfInBounds_toArray, List.set_cons_zero, List.set_cons_succ])
           refine wpAnyH_take (i := 1) (oi := ⟨some 84, _, _, _, _, _⟩) (v := ?_) rfl (by decide +kernel) (by decide +kernel) (by decide +kernel) (fun _ _ _ h => h) (Or.inl ⟨by rfl, ?_⟩) (by assumption) ?_
           rotate_left
           ·intro wq hSw; (try dsimp only at hSw); go_simp; (try with_reducible rfl)
           (try simp only [Act.put, List.setIfInBounds_toArray, List.set_cons_zero, List.set_cons_succ])
           refine wpAnyH_take (i := 2) (oi := ⟨some 85, _, _, _, _, _⟩) (v := ?_) rfl (by decide +kernel) (by decide +kernel) (by decide +kernel) (fun _ _ _ h => h) (Or.inl ⟨by rfl, ?_⟩) (by assumption) ?_
           rotate_left
           ·intro wq hSw; (try dsimp only at hSw); go_simp; (try with_reducible rfl)
           (try simp only [Act.put, List.setIfInBounds_toArray, List.set_cons_zero, List.set_cons_succ])
           refine wpAnyH_take (i := 3) (oi := ⟨some 86, _, _, _, _, _⟩) (v := ?_) rfl (by decide +kernel) (by decide +kernel) (by decide +kernel) (fun _ _ _ h => h) (Or.inl ⟨by rfl, ?_⟩) (by assumption) ?_
           rotate_left
           ·intro wq hSw; (try dsimp only at hSw); go_simp; (try with_reducible rfl)
           (try simp only [Act.put, List.setIfInBounds_toArray, List.set_cons_zero, List.set_cons_succ])
           refine wpAnyH_take (i := 4) (oi := ⟨some 87, _, _, _, _, _⟩) (v := ?_) rfl (by decide +kernel) (by decide +kernel) (by decide +kernel) (fun _ _ _ h => h) (Or.inl ⟨by rfl, ?_⟩) (by assumption) ?_
           rotate_left
           ·intro wq hSw; (try dsimp only at hSw); go_simp; (try with_reducible rfl)
           (try simp only [Act.put, List.setIfInBounds_toArray, List.set_cons_zero, List.set_cons_succ])
           refine wpAnyH_ready (rs := [5]) (by decide +kernel) (by simp) ?_
           refine AllReadyH.cons (i := 5) (o := ⟨some 88, _, _, _, _, _⟩) rfl (fun K hK => ?_) AllReadyH.nil
           go_simp
           go_at_call 18; refine Calls.mono (rcmp2_n (hx9.out.below kW) (hzc.out.below kW) (by omega) (by omega)) ?_; rintro e wCkC1 ⟨rfl, kC1⟩; rw [hv1.out]
           have kW := grow_step kC1 kW
           try go_wp2_with fail
           refine hK.out _ _ ?_ ?_
           ·first | with_reducible exact trivial | ((try dsimp only); exact ⟨(yx9.out.below kW).c0, (yx9.out.below kW).c1, (yy9.out.below kW).c0, (yy9.out.below kW).c1, (Below.cell (p := ⟨cb, _, none⟩) kW hcb).trans e0, (Below.cell (p := ⟨cb, _, none⟩) kW hcb).trans e1⟩)
           clear hK K hHeld; intro hHeld
           (try simp only [Act.put, List.setIfInBounds_toArray, List.set_cons_zero, List.set_cons_succ])
           refine wpAnyH_take (i := 6) (oi := ⟨some 89, _, _, _, _, _⟩) (v := ?_) rfl (by decide +kernel) (by decide +kernel) (by decide +kernel) (fun _ _ _ h => h) (Or.inl ⟨by rfl, ?_⟩) (by assumption) ?_
           rotate_left
           ·intro wq hSw; (try dsimp only at hSw); go_simp; (try with_reducible rfl)
           (try simp only [Act.put, List.setIfInBounds_toArray, List.set_cons_zero, List.set_cons_succ])
           refine wpAnyH_take (i := 7) (oi := ⟨some 90, _, _, _, _, _⟩) (v := ?_) rfl (by decide +kernel) (by decide +kernel) (by decide +kernel) (fun _ _ _ h => h) (Or.inl ⟨by rfl, ?_⟩) (by assumption) ?_
           rotate_left
           ·intro wq hSw; (try dsimp only at hSw); go_simp; (try with_reducible rfl)
           (try simp only [Act.put, List.setIfInBounds_toArray, List.set_cons_zero, List.set_cons_succ])
           refine wpAnyH_take (i := 8) (oi := ⟨some 91, _, _, _, _, _⟩) (v := undef) rfl (by decide +kernel) (by decide +kernel) (by decide +kernel) (fun _ _ _ h => h) (Or.inr ⟨by rfl, rfl⟩) (by assumption) ?_
           (try simp only [Act.put, List.setIfInBounds_toArray, List.set_cons_zero, List.set_cons_succ])
           refine wpAnyH_take (i := 9) (oi := ⟨some 92, _, _, _, _, _⟩) (v := undef) rfl (by decide +kernel) (by decide +kernel) (by decide +kernel) (fun _ _ _ h => h) (Or.inr ⟨by rfl, rfl⟩) (by assumption) ?_
           (try simp only [Act.put, List.setIfInBounds_toArray, List.set_cons_zero, List.set_cons_succ])
           refine wpAnyH_take (i := 10) (oi := ⟨some 93, _, _, _, _, _⟩) (v := undef) rfl (by decide +kernel) (by decide +kernel) (by decide +kernel) (fun _ _ _ h => h) (Or.inr ⟨by rfl, rfl⟩) (by assumption) ?_
           (try simp only [Act.put, List.setIfInBounds_toArray, List.set_cons_zero, List.set_cons_succ])
           refine wpAnyH_take (i := 11) (oi := ⟨some 94, _, _, _, _, _⟩) (v := undef) rfl (by decide +kernel) (by decide +kernel) (by decide +kernel) (fun _ _ _ h => h) (Or.inr ⟨by rfl, rfl⟩) (by assumption) ?_
           (try simp only [Act.put, List.setIfInBounds_toArray, List.set_cons_zero, List.set_cons_succ])
           refine wpAnyH_take (i := 12) (oi := ⟨some 95, _, _, _, _, _⟩) (v := undef) rfl (by decide +kernel) (by decide +kernel) (by decide +kernel) (fun _ _ _ h => h) (Or.inr ⟨by rfl, rfl⟩) (by assumption) ?_
           (try simp only [Act.put, List.setIfInBounds_toArray, List.set_cons_zero, List.set_cons_succ])
           refine wpAnyH_take (i := 13) (oi := ⟨some 96, _, _, _, _, _⟩) (v := undef) rfl (by decide +kernel) (by decide +kernel) (by decide +kernel) (fun _ _ _ h => h) (Or.inr ⟨by rfl, rfl⟩) (by assumption) ?_
           (try simp only [Act.put, List.setIfInBounds_toArray, List.set_cons_zero, List.set_cons_succ])
           refine wpAnyH_take (i := 14) (oi := ⟨some 97, _, _, _, _, _⟩) (v := undef) rfl (by decide +kernel) (by decide +kernel) (by decide +kernel) (fun _ _ _ h => h) (Or.inr ⟨by rfl, rfl⟩) (by assumption) ?_
           (try simp only [Act.put, List.setIfInBounds_toArray, List.set_cons_zero, List.set_cons_succ])
           refine wpAnyH_take (i := 15) (oi := ⟨some 98, _, _, _, _, _⟩) (v := ?_) rfl (by decide +kernel) (by decide +kernel) (by decide +kernel) (fun _ _ _ h => h) (Or.inl ⟨by rfl, ?_⟩) (by assumption) ?_
           rotate_left
           ·intro wq hSw; (try dsimp only at hSw); go_simp; (try with_reducible rfl)
           (try simp only [Act.put, List.setIfInBounds_toArray, List.set_cons_zero, List.set_cons_succ])
           refine wpAnyH_done ?_ ?_ _
           ·decide +kernel
           have kz := hide kW
           clear kW hHeld e0 e1
           go_wp2_with fail
           go_meet
           case rel => exact ⟨false, rfl, fun _ => by omega, kz⟩
          ·go_upto_region 24 with (fail)
           refine wp_region_held_drew (S := (fun w' => w'.cell? ⟨bx, 0, none⟩ = some (.bool z.s) ∧ w'.cell? ⟨bx, 1, none⟩ = some (.slice z.a z.l z.c) ∧ w'.cell? ⟨b5, 0, none⟩ = some (.bool sB) ∧ w'.cell? ⟨b5, 1, none⟩ = some (.slice aB lB cB) ∧ w'.cell? ⟨cb, off + n * 2, none⟩ = some (.bool zc.s) ∧ w'.cell? ⟨cb, off + n * 2 + 1, none⟩ = some (.slice zc.a zc.l zc.c))) (by kernel_rfl) (⟨(yx9.out.below (grow_drew (Below.refl _ _))).c0, (yx9.out.below (grow_drew (Below.refl _ _))).c1, (yy9.out.below (grow_drew (Below.refl _ _))).c0, (yy9.out.below (grow_drew (Below.refl _ _))).c1, (Below.cell (p := ⟨cb, _, none⟩) (grow_drew (Below.refl _ _)) hcb).trans e0, (Below.cell (p := ⟨cb, _, none⟩) (grow_drew (Below.refl _ _)) hcb).trans e1⟩) (fun hHeld => ?_)
           show wpAnyH _ _ _ _ _ 16 _ _ _
           have kW := grow_drew (Below.refl w9.heap.size w9)
           generalize w9.drew = wQ at *
           refine wpAnyH_take (i := 0) (oi := ⟨some 83, _, _, _, _, _⟩) (v := ?_) rfl (by decide +kernel) (by decide +kernel) (by decide +kernel) (fun _ _ _ h => h) (Or.inl ⟨by rfl, ?_⟩) (by assumption) ?_
           rotate_left
           ·intro wq hSw; (try dsimp only at hSw); go_simp; (try with_reducible rfl)
           (try simp only [Act.put, List.setIfInBounds_toArray, List.set_cons_zero, List.set_cons_succ])
           refine wpAnyH_take (i := 1) (oi := ⟨some 84, _, _, _, _, _⟩) (v := ?_) rfl (by decide +kernel) (by decide +kernel) (by decide +kernel) (fun _ _ _ h => h) (Or.inl ⟨by rfl, ?_⟩) (by assumption) ?_
           rotate_left
           ·intro wq hSw; (try dsimp only at hSw); go_simp; (try with_reducible rfl)
           (try simp only [Act.put, List.setIfInBounds_toArray, List.set_cons_zero, List.set_cons_succ])
           refine wpAnyH_take (i := 2) (oi := ⟨some 85, _, _, _, _, _⟩) (v := ?_) rfl (by decide +kernel) (by decide +kernel) (by decide +kernel) (fun _ _ _ h => h) (Or.inl ⟨by rfl, ?_⟩) (by assumption) ?_
           rotate_left
           ·intro wq hSw; (try dsimp only at hSw); go_simp; (try with_reducible rfl)
           (try simp only [Act.put, List.setIfInBounds_toArray, List.set_cons_zero, List.set_cons_succ])
           refine wpAnyH_take (i := 3) (oi := ⟨some 86, _, _, _, _, _⟩) (v := ?_) rfl (by decide +kernel) (by decide +kernel) (by decide +kernel) (fun _ _ _ h => h) (Or.inl ⟨by rfl, ?_⟩) (by assumption) ?_
           rotate_left
           ·intro wq hSw; (try dsimp only at hSw); go_simp; (try with_reducible rfl)
           (try simp only [Act.put, List.setIfInBounds_toArray, List.set_cons_zero, List.set_cons_succ])
           refine wpAnyH_take (i := 4) (oi := ⟨some 87, _, _, _, _, _⟩) (v := ?_) rfl (by decide +kernel) (by decide +kernel) (by decide +kernel) (fun _ _ _ h => h) (Or.inl ⟨by rfl, ?_⟩) (by assumption) ?_
           rotate_left
           ·intro wq hSw; (try dsimp only at hSw); go_simp; (try with_reducible rfl)
           (try simp only [Act.put, List.setIfInBounds_toArray, List.set_cons_zero, List.set_cons_succ])
           refine wpAnyH_ready (rs := [5]) (by decide +kernel) (by simp) ?_
           refine AllReadyH.cons (i := 5) (o := ⟨some 88, _, _, _, _, _⟩) rfl (fun K hK => ?_) AllReadyH.nil
           go_simp
           go_at_call 18; refine Calls.mono (rcmp2_n (hx9.out.below kW) (hzc.out.below kW) (by omega) (by omega)) ?_; rintro e wCkC1 ⟨rfl, kC1⟩; rw [hv1.out]
           have kW := grow_step kC1 kW
           try go_wp2_with fail
           refine hK.out _ _ ?_ ?_
           ·first | with_reducible exact trivial | ((try dsimp only); exact ⟨(yx9.out.below kW).c0, (yx9.out.below kW).c1, (yy9.out.below kW).c0, (yy9.out.below kW).c1, (Below.cell (p := ⟨cb, _, none⟩) kW hcb).trans e0, (Below.cell (p := ⟨cb, _, none⟩) kW hcb).trans e1⟩)
           clear hK K hHeld; intro hHeld
           (try simp only [Act.put, List.setIfInBounds_toArray, List.set_cons_zero, List.set_cons_succ])
           refine wpAnyH_take (i := 6) (oi := ⟨some 89, _, _, _, _, _⟩) (v := ?_) rfl (by decide +kernel) (by decide +kernel) (by decide +kernel) (fun _ _ _ h => h) (Or.inl ⟨by rfl, ?_⟩) (by assumption) ?_
           rotate_left
           ·intro wq hSw; (try dsimp only at hSw); go_simp; (try with_reducible rfl)
           (try simp only [Act.put, List.setIfInBounds_toArray, List.set_cons_zero, List.set_cons_succ])
           refine wpAnyH_take (i := 7) (oi := ⟨some 90, _, _, _, _, _⟩) (v := ?_) rfl (by decide +kernel) (by decide +kernel) (by decide +kernel) (fun _ _ _ h => h) (Or.inl ⟨by rfl, ?_⟩) (by assumption) ?_
           rotate_left
           ·intro wq hSw; (try dsimp only at hSw); go_simp; (try with_reducible rfl)
           (try simp only [Act.put, List.setIfInBounds_toArray, List.set_cons_zero, List.set_cons_succ])
           refine wpAnyH_take (i := 8) (oi := ⟨some 91, _, _, _, _, _⟩) (v := undef) rfl (by decide +kernel) (by decide +kernel) (by decide +kernel) (fun _ _ _ h => h) (Or.inr ⟨by rfl, rfl⟩) (by assumption) ?_
           (try simp only [Act.put, List.setIfInBounds_toArray, List.set_cons_zero, List.set_cons_succ])
           refine wpAnyH_take (i := 9) (oi := ⟨some 92, _, _, _, _, _⟩) (v := undef) rfl (by decide +kernel) (by decide +kernel) (by decide +kernel) (fun _ _ _ h => h) (Or.inr ⟨by rfl, rfl⟩) (by assumption) ?_
           (try simp only [Act.put, List.setIfInBounds_toArray, List.set_cons_zero, List.set_cons_succ])
           refine wpAnyH_take (i := 10) (oi := ⟨some 93, _, _, _, _, _⟩) (v := undef) rfl (by decide +kernel) (by decide +kernel) (by decide +kernel) (fun _ _ _ h => h) (Or.inr ⟨by rfl, rfl⟩) (by assumption) ?_
           (try simp only [Act.put, List.setIfInBounds_toArray, List.set_cons_zero, List.set_cons_succ])
           refine wpAnyH_take (i := 11) (oi := ⟨some 94, _, _, _, _, _⟩) (v := undef) rfl (by decide +kernel) (by decide +kernel) (by decide +kernel) (fun _ _ _ h => h) (Or.inr ⟨by rfl, rfl⟩) (by assumption) ?_
           (try simp only [Act.put, List.setIfInBounds_toArray, List.set_cons_zero, List.set_cons_succ])
           refine wpAnyH_take (i := 12) (oi := ⟨some 95, _, _, _, _, _⟩) (v := undef) rfl (by decide +kernel) (by decide +kernel) (by decide +kernel) (fun _ _ _ h => h) (Or.inr ⟨by rfl, rfl⟩) (by assumption) ?_
           (try simp only [Act.put, List.setIfInBounds_toArray, List.set_cons_zero, List.set_cons_succ])
           refine wpAnyH_take (i := 13) (oi := ⟨some 96, _, _, _, _, _⟩) (v := undef) rfl (by decide +kernel) (by decide +kernel) (by decide +kernel) (fun _ _ _ h => h) (Or.inr ⟨by rfl, rfl⟩) (by assumption) ?_
           (try simp only [Act.put, List.setIfInBounds_toArray, List.set_cons_zero, List.set_cons_succ])
           refine wpAnyH_take (i := 14) (oi := ⟨some 97, _, _, _, _, _⟩) (v := undef) rfl (by decide +kernel) (by decide +kernel) (by decide +kernel) (fun _ _ _ h => h) (Or.inr ⟨by rfl, rfl⟩) (by assumption) ?_
           (try simp only [Act.put, List.setIfInBounds_toArray, List.set_cons_zero, List.set_cons_succ])
           refine wpAnyH_take (i := 15) (oi := ⟨some 98, _, _, _, _, _⟩) (v := ?_) rfl (by decide +kernel) (by decide +kernel) (by decide +kernel) (fun _ _ _ h => h) (Or.inl ⟨by rfl, ?_⟩) (by assumption) ?_
           rotate_left
           ·intro wq hSw; (try dsimp only at hSw); go_simp; (try with_reducible rfl)
           (try simp only [Act.put, List.setIfInBounds_toArray, List.set_cons_zero, List.set_cons_succ])
           refine wpAnyH_done ?_ ?_ _
           ·decide +kernel
           have kz := hide kW
           clear kW hHeld e0 e1
           go_wp2_with fail
           go_meet
           case rel => exact ⟨false, rfl, fun _ => by omega, kz⟩
         case rest =>
          obtain ⟨bq, rfl, hbq, k10⟩ := hcut
          have kz := hide (grow_step k10.out kq9.out)
          clear k10 e0 e1 h1 h2
          cases bq with
          | true =>
           go_wp2
           go_roundw
           case measure => simp [intOf]; omega
           case rel =>
            exact ⟨n + 1, true, by omega, by go_num, rfl, fun h => absurd h (by decide), kz.out⟩
          | false =>
           go_wp2
           go_roundw
           case measure => simp [intOf]; omega
           case rel =>
            exact ⟨n + 1, bt, by omega, by go_num, rfl, fun h m hm hm2 => (by
             by_cases e : m = n
             ·subst e
              rw [hcn.out]
              exact hbq rfl
             ·exact hbt.out h m hm (by omega)), kz.out⟩
       ·obtain rfl : n = nc := by omega
        have yx9 := hide (yx8.out.below kq)
        have yy9 := hide (yy8.out.below kq)
        have hx9 := hide (hx8.out.below kq)
        have hy9 := hide (hy8.out.below kq)
        have hS9 := hide (hS8.out.below kq)
        replace kq := hide kq
        cases bt with
        | true =>
         go_upto_region 26 with (fail)
         refine wp_region_held_drew (S := (fun _ => True)) (by kernel_rfl) (True.intro) (fun hHeld => ?_)
         show wpAnyH _ _ _ _ _ 11 _ _ _
         have kW := grow_drew (Below.refl wr.heap.size wr)
         generalize wr.drew = wQ at *
         refine wpAnyH_take (i := 0) (oi := ⟨some 99, _, _, _, _, _⟩) (v := ?_) rfl (by decide +kernel) (by decide +kernel) (by decide +kernel) (fun _ _ _ h => h) (Or.inl ⟨by rfl, ?_⟩) (by assumption) ?_
         rotate_left
         ·intro wq hSw; (try dsimp only at hSw); go_simp; (try with_reducible rfl)
         (try simp only [Act.put, List.setIfInBounds_toArray, List.set_cons_zero, List.set_cons_succ])
         refine wpAnyH_take (i := 1) (oi := ⟨some 100, _, _, _, _, _⟩) (v := ?_) rfl (by decide +kernel) (by decide +kernel) (by decide +kernel) (fun _ _ _ h => h) (Or.inl ⟨by rfl, ?_⟩) (by assumption) ?_
         rotate_left
         ·intro wq hSw; (try dsimp only at hSw); go_simp; (try with_reducible rfl)
         (try simp only [Act.put, List.setIfInBounds_toArray, List.set_cons_zero, List.set_cons_succ])
         refine wpAnyH_take (i := 2) (oi := ⟨some 101, _, _, _, _, _⟩) (v := ?_) rfl (by decide +kernel) (by decide +kernel) (by decide +kernel) (fun _ _ _ h => h) (Or.inl ⟨by rfl, ?_⟩) (by assumption) ?_
         rotate_left
         ·intro wq hSw; (try dsimp only at hSw); go_simp; (try with_reducible rfl)
         (try simp only [Act.put, List.setIfInBounds_toArray, List.set_cons_zero, List.set_cons_succ])
         refine wpAnyH_take (i := 3) (oi := ⟨some 102, _, _, _, _, _⟩) (v := undef) rfl (by decide +kernel) (by decide +kernel) (by decide +kernel) (fun _ _ _ h => h) (Or.inr ⟨by rfl, rfl⟩) (by assumption) ?_
         (try simp only [Act.put, List.setIfInBounds_toArray, List.set_cons_zero, List.set_cons_succ])
         refine wpAnyH_take (i := 4) (oi := ⟨some 103, _, _, _, _, _⟩) (v := undef) rfl (by decide +kernel) (by decide +kernel) (by decide +kernel) (fun _ _ _ h => h) (Or.inr ⟨by rfl, rfl⟩) (by assumption) ?_
         (try simp only [Act.put, List.setIfInBounds_toArray, List.set_cons_zero, List.set_cons_succ])
         refine wpAnyH_take (i := 5) (oi := ⟨some 104, _, _, _, _, _⟩) (v := undef) rfl (by decide +kernel) (by decide +kernel) (by decide +kernel) (fun _ _ _ h => h) (Or.inr ⟨by rfl, rfl⟩) (by assumption) ?_
         (try simp only [Act.put, List.setIfInBounds_toArray, List.set_cons_zero, List.set_cons_succ])
         refine wpAnyH_take (i := 6) (oi := ⟨some 105, _, _, _, _, _⟩) (v := undef) rfl (by decide +kernel) (by decide +kernel) (by decide +kernel) (fun _ _ _ h => h) (Or.inr ⟨by rfl, rfl⟩) (by assumption) ?_
         (try simp only [Act.put, List.setIfInBounds_toArray, List.set_cons_zero, List.set_cons_succ])
         refine wpAnyH_take (i := 7) (oi := ⟨some 106, _, _, _, _, _⟩) (v := undef) rfl (by decide +kernel) (by decide +kernel) (by decide +kernel) (fun _ _ _ h => h) (Or.inr ⟨by rfl, rfl⟩) (by assumption) ?_
         (try simp only [Act.put, List.setIfInBounds_toArray, List.set_cons_zero, List.set_cons_succ])
         refine wpAnyH_take (i := 8) (oi := ⟨some 107, _, _, _, _, _⟩) (v := undef) rfl (by decide +kernel) (by decide +kernel) (by decide +kernel) (fun _ _ _ h => h) (Or.inr ⟨by rfl, rfl⟩) (by assumption) ?_
         (try simp only [Act.put, List.setIfInBounds_toArray, List.set_cons_zero, List.set_cons_succ])
         refine wpAnyH_take (i := 9) (oi := ⟨some 108, _, _, _, _, _⟩) (v := undef) rfl (by decide +kernel) (by decide +kernel) (by decide +kernel) (fun _ _ _ h => h) (Or.inr ⟨by rfl, rfl⟩) (by assumption) ?_
         (try simp only [Act.put, List.setIfInBounds_toArray, List.set_cons_zero, List.set_cons_succ])
         refine wpAnyH_take (i := 10) (oi := ⟨some 109, _, _, _, _, _⟩) (v := ?_) rfl (by decide +kernel) (by decide +kernel) (by decide +kernel) (fun _ _ _ h => h) (Or.inl ⟨by rfl, ?_⟩) (by assumption) ?_
         rotate_left
         ·intro wq hSw; (try dsimp only at hSw); go_simp; (try with_reducible rfl)
         (try simp only [Act.put, List.setIfInBounds_toArray, List.set_cons_zero, List.set_cons_succ])
         refine wpAnyH_done ?_ ?_ _
         ·decide +kernel
         have kz := hide (grow_step (grow_step kW kq.out) k8.out)
         clear kW hHeld
         go_wp2_with fail
         exact ⟨⟨k + 1, by omega, by go_num, kz.out⟩, by simp [intOf]; omega⟩
        | false =>
         have hsh : Hid (mem S (x + p) = mem S x) := hide (by
          rw [← hp0.out]
          refine mem_shift fun c hc => ?_
          obtain ⟨m, hm, rfl⟩ := List.getElem_of_mem hc
          rw [hp0.out]
          exact hbt.out rfl m hm (by rw [← hnc.out]; exact hm))
         cases hme : mem S x
         ·go_upto_region 26 with (fail)
          refine wp_region_held_drew (S := (fun w' => w'.cell? ⟨bx, 0, none⟩ = some (.bool z.s) ∧ w'.cell? ⟨bx, 1, none⟩ = some (.slice z.a z.l z.c) ∧ w'.cell? ⟨b5, 0, none⟩ = some (.bool sB) ∧ w'.cell? ⟨b5, 1, none⟩ = some (.slice aB lB cB))) (by kernel_rfl) (⟨(yx9.out.below (grow_drew (Below.refl _ _))).c0, (yx9.out.below (grow_drew (Below.refl _ _))).c1, (yy9.out.below (grow_drew (Below.refl _ _))).c0, (yy9.out.below (grow_drew (Below.refl _ _))).c1⟩) (fun hHeld => ?_)
          show wpAnyH _ _ _ _ _ 11 _ _ _
          have kW := grow_drew (Below.refl wr.heap.size wr)
          generalize wr.drew = wQ at *
          refine wpAnyH_take (i := 0) (oi := ⟨some 99, _, _, _, _, _⟩) (v := ?_) rfl (by decide +kernel) (by decide +kernel) (by decide +kernel) (fun _ _ _ h => h) (Or.inl ⟨by rfl, ?_⟩) (by assumption) ?_
          rotate_left
          ·intro wq hSw; (try dsimp only at hSw); go_simp; (try with_reducible rfl)
          (try simp only [Act.put, List.setIfInBounds_toArray, List.set_cons_zero, List.set_cons_succ])
          refine wpAnyH_take (i := 1) (oi := ⟨some 100, _, _, _, _, _⟩) (v := ?_) rfl (by decide +kernel) (by decide +kernel) (by decide +kernel) (fun _ _ _ h => h) (Or.inl ⟨by rfl, ?_⟩) (by assumption) ?_
          rotate_left
          ·intro wq hSw; (try dsimp only at hSw); go_simp; (try with_reducible rfl)
          (try simp only [Act.put, List.setIfInBounds_toArray, List.set_cons_zero, List.set_cons_succ])
          refine wpAnyH_take (i := 2) (oi := ⟨some 101, _, _, _, _, _⟩) (v := ?_) rfl (by decide +kernel) (by decide +kernel) (by decide +kernel) (fun _ _ _ h => h) (Or.inl ⟨by rfl, ?_⟩) (by assumption) ?_
          rotate_left
          ·intro wq hSw; (try dsimp only at hSw); go_simp; (try with_reducible rfl)
          (try simp only [Act.put, List.setIfInBounds_toArray, List.set_cons_zero, List.set_cons_succ])
          refine wpAnyH_take (i := 3) (oi := ⟨some 102, _, _, _, _, _⟩) (v := ?_) rfl (by decide +kernel) (by decide +kernel) (by decide +kernel) (fun _ _ _ h => h) (Or.inl ⟨by rfl, ?_⟩) (by assumption) ?_
          rotate_left
          ·intro wq hSw; (try dsimp only at hSw); go_simp; (try with_reducible rfl)
          (try simp only [Act.put, List.setIfInBounds_toArray, List.set_cons_zero, List.set_cons_succ])
          refine wpAnyH_take (i := 4) (oi := ⟨some 103, _, _, _, _, _⟩) (v := ?_) rfl (by decide +kernel) (by decide +kernel) (by decide +kernel) (fun _ _ _ h => h) (Or.inl ⟨by rfl, ?_⟩) (by assumption) ?_
          rotate_left
          ·intro wq hSw; (try dsimp only at hSw); go_simp; (try with_reducible rfl)
          (try simp only [Act.put, List.setIfInBounds_toArray, List.set_cons_zero, List.set_cons_succ])
          refine wpAnyH_take (i := 6) (oi := ⟨some 105, _, _, _, _, _⟩) (v := ?_) rfl (by decide +kernel) (by decide +kernel) (by decide +kernel) (fun _ _ _ h => h) (Or.inl ⟨by rfl, ?_⟩) (by assumption) ?_
          rotate_left
          ·intro wq hSw; (try dsimp only at hSw); go_simp; (try with_reducible rfl)
          (try simp only [Act.put, List.setIfInBounds_toArray, List.set_cons_zero, List.set_cons_succ])
          refine wpAnyH_take (i := 7) (oi := ⟨some 106, _, _, _, _, _⟩) (v := ?_) rfl (by decide +kernel) (by decide +kernel) (by decide +kernel) (fun _ _ _ h => h) (Or.inl ⟨by rfl, ?_⟩) (by assumption) ?_
          rotate_left
          ·intro wq hSw; (try dsimp only at hSw); go_simp; (try with_reducible rfl)
          (try simp only [Act.put, List.setIfInBounds_toArray, List.set_cons_zero, List.set_cons_succ])
          refine wpAnyH_ready (rs := [5]) (by decide +kernel) (by simp) ?_
          refine AllReadyH.cons (i := 5) (o := ⟨some 104, _, _, _, _, _⟩) rfl (fun K hK => ?_) AllReadyH.nil
          go_simp
          go_at_call 13; refine Calls.mono (sHas_n (y := z) (hS9.out.below kW) (by omega) (hx9.out.below kW) (by omega)) ?_; rintro e wH ⟨rfl, kH⟩; rw [hme]
          have kW := grow_step kH kW
          try go_wp2_with fail
          refine hK.out _ _ ?_ ?_
          ·first | with_reducible exact trivial | ((try dsimp only); exact ⟨(yx9.out.below kW).c0, (yx9.out.below kW).c1, (yy9.out.below kW).c0, (yy9.out.below kW).c1⟩)
          clear hK K hHeld; intro hHeld
          (try simp only [Act.put, List.setIfInBounds_toArray, List.set_cons_zero, List.set_cons_succ])
          refine wpAnyH_ready (rs := [8]) (by decide +kernel) (by simp) ?_
          refine AllReadyH.cons (i := 8) (o := ⟨some 107, _, _, _, _, _⟩) rfl (fun K hK => ?_) AllReadyH.nil
          go_simp
          go_at_call 13; refine Calls.mono (sHas_n (y := ⟨sB, aB, lB, cB⟩) (hS9.out.below kW) (by omega) (hy9.out.zm.below kW) (by show lB ≤ _; omega)) ?_; rintro e wG ⟨rfl, kG⟩; rw [hsh.out, hme]
          have kW := grow_step kG kW
          try go_wp2_with fail
          refine hK.out _ _ ?_ ?_
          ·first | with_reducible exact trivial | ((try dsimp only); exact ⟨(yx9.out.below kW).c0, (yx9.out.below kW).c1, (yy9.out.below kW).c0, (yy9.out.below kW).c1⟩)
          clear hK K hHeld; intro hHeld
          (try simp only [Act.put, List.setIfInBounds_toArray, List.set_cons_zero, List.set_cons_succ])
          refine wpAnyH_take (i := 9) (oi := ⟨some 108, _, _, _, _, _⟩) (v := ?_) rfl (by decide +kernel) (by decide +kernel) (by decide +kernel) (fun _ _ _ h => h) (Or.inl ⟨by rfl, ?_⟩) (by assumption) ?_
          rotate_left
          ·intro wq hSw; (try dsimp only at hSw); go_simp; (try with_reducible rfl)
          (try simp only [Act.put, List.setIfInBounds_toArray, List.set_cons_zero, List.set_cons_succ])
          refine wpAnyH_take (i := 10) (oi := ⟨some 109, _, _, _, _, _⟩) (v := ?_) rfl (by decide +kernel) (by decide +kernel) (by decide +kernel) (fun _ _ _ h => h) (Or.inl ⟨by rfl, ?_⟩) (by assumption) ?_
          rotate_left
          ·intro wq hSw; (try dsimp only at hSw); go_simp; (try with_reducible rfl)
          (try simp only [Act.put, List.setIfInBounds_toArray, List.set_cons_zero, List.set_cons_succ])
          refine wpAnyH_done ?_ ?_ _
          ·decide +kernel
          have kz := hide (grow_step (grow_step kW kq.out) k8.out)
          clear kW hHeld
          go_wp2_with fail
          exact ⟨⟨k + 1, by omega, by go_num, kz.out⟩, by simp [intOf]; omega⟩
         ·go_upto_region 26 with (fail)
          refine wp_region_held_drew (S := (fun w' => w'.cell? ⟨bx, 0, none⟩ = some (.bool z.s) ∧ w'.cell? ⟨bx, 1, none⟩ = some (.slice z.a z.l z.c) ∧ w'.cell? ⟨b5, 0, none⟩ = some (.bool sB) ∧ w'.cell? ⟨b5, 1, none⟩ = some (.slice aB lB cB))) (by kernel_rfl) (⟨(yx9.out.below (grow_drew (Below.refl _ _))).c0, (yx9.out.below (grow_drew (Below.refl _ _))).c1, (yy9.out.below (grow_drew (Below.refl _ _))).c0, (yy9.out.below (grow_drew (Below.refl _ _))).c1⟩) (fun hHeld => ?_)
          show wpAnyH _ _ _ _ _ 11 _ _ _
          have kW := grow_drew (Below.refl wr.heap.size wr)
          generalize wr.drew = wQ at *
          refine wpAnyH_take (i := 0) (oi := ⟨some 99, _, _, _, _, _⟩) (v := ?_) rfl (by decide +kernel) (by decide +kernel) (by decide +kernel) (fun _ _ _ h => h) (Or.inl ⟨by rfl, ?_⟩) (by assumption) ?_
          rotate_left
          ·intro wq hSw; (try dsimp only at hSw); go_simp; (try with_reducible rfl)
          (try simp only [Act.put, List.setIfInBounds_toArray, List.set_cons_zero, List.set_cons_succ])
          refine wpAnyH_take (i := 1) (oi := ⟨some 100, _, _, _, _, _⟩) (v := ?_) rfl (by decide +kernel) (by decide +kernel) (by decide +kernel) (fun _ _ _ h => h) (Or.inl ⟨by rfl, ?_⟩) (by assumption) ?_
          rotate_left
          ·intro wq hSw; (try dsimp only at hSw); go_simp; (try with_reducible rfl)
          (try simp only [Act.put, List.setIfInBounds_toArray, List.set_cons_zero, List.set_cons_succ])
          refine wpAnyH_take (i := 2) (oi := ⟨some 101, _, _, _, _, _⟩) (v := ?_) rfl (by decide +kernel) (by decide +kernel) (by decide +kernel) (fun _ _ _ h => h) (Or.inl ⟨by rfl, ?_⟩) (by assumption) ?_
          rotate_left
          ·intro wq hSw; (try dsimp only at hSw); go_simp; (try with_reducible rfl)
          (try simp only [Act.put, List.setIfInBounds_toArray, List.set_cons_zero, List.set_cons_succ])
          refine wpAnyH_take (i := 3) (oi := ⟨some 102, _, _, _, _, _⟩) (v := ?_) rfl (by decide +kernel) (by decide +kernel) (by decide +kernel) (fun _ _ _ h => h) (Or.inl ⟨by rfl, ?_⟩) (by assumption) ?_
          rotate_left
          ·intro wq hSw; (try dsimp only at hSw); go_simp; (try with_reducible rfl)
          (try simp only [Act.put, List.setIfInBounds_toArray, List.set_cons_zero, List.set_cons_succ])
          refine wpAnyH_take (i := 4) (oi := ⟨some 103, _, _, _, _, _⟩) (v := ?_) rfl (by decide +kernel) (by decide +kernel) (by decide +kernel) (fun _ _ _ h => h) (Or.inl ⟨by rfl, ?_⟩) (by assumption) ?_
          rotate_left
          ·intro wq hSw; (try dsimp only at hSw); go_simp; (try with_reducible rfl)
          (try simp only [Act.put, List.setIfInBounds_toArray, List.set_cons_zero, List.set_cons_succ])
          refine wpAnyH_take (i := 6) (oi := ⟨some 105, _, _, _, _, _⟩) (v := ?_) rfl (by decide +kernel) (by decide +kernel) (by decide +kernel) (fun _ _ _ h => h) (Or.inl ⟨by rfl, ?_⟩) (by assumption) ?_
          rotate_left
          ·intro wq hSw; (try dsimp only at hSw); go_simp; (try with_reducible rfl)
          (try simp only [Act.put, List.setIfInBounds_toArray, List.set_cons_zero, List.set_cons_succ])
          refine wpAnyH_take (i := 7) (oi := ⟨some 106, _, _, _, _, _⟩) (v := ?_) rfl (by decide +kernel) (by decide +kernel) (by decide +kernel) (fun _ _ _ h => h) (Or.inl ⟨by rfl, ?_⟩) (by assumption) ?_
          rotate_left
          ·intro wq hSw; (try dsimp only at hSw); go_simp; (try with_reducible rfl)
          (try simp only [Act.put, List.setIfInBounds_toArray, List.set_cons_zero, List.set_cons_succ])
          refine wpAnyH_ready (rs := [5]) (by decide +kernel) (by simp) ?_
          refine AllReadyH.cons (i := 5) (o := ⟨some 104, _, _, _, _, _⟩) rfl (fun K hK => ?_) AllReadyH.nil
          go_simp
          go_at_call 13; refine Calls.mono (sHas_n (y := z) (hS9.out.below kW) (by omega) (hx9.out.below kW) (by omega)) ?_; rintro e wH ⟨rfl, kH⟩; rw [hme]
          have kW := grow_step kH kW
          try go_wp2_with fail
          refine hK.out _ _ ?_ ?_
          ·first | with_reducible exact trivial | ((try dsimp only); exact ⟨(yx9.out.below kW).c0, (yx9.out.below kW).c1, (yy9.out.below kW).c0, (yy9.out.below kW).c1⟩)
          clear hK K hHeld; intro hHeld
          (try simp only [Act.put, List.setIfInBounds_toArray, List.set_cons_zero, List.set_cons_succ])
          refine wpAnyH_ready (rs := [8]) (by decide +kernel) (by simp) ?_
          refine AllReadyH.cons (i := 8) (o := ⟨some 107, _, _, _, _, _⟩) rfl (fun K hK => ?_) AllReadyH.nil
          go_simp
          go_at_call 13; refine Calls.mono (sHas_n (y := ⟨sB, aB, lB, cB⟩) (hS9.out.below kW) (by omega) (hy9.out.zm.below kW) (by show lB ≤ _; omega)) ?_; rintro e wG ⟨rfl, kG⟩; rw [hsh.out, hme]
          have kW := grow_step kG kW
          try go_wp2_with fail
          refine hK.out _ _ ?_ ?_
          ·first | with_reducible exact trivial | ((try dsimp only); exact ⟨(yx9.out.below kW).c0, (yx9.out.below kW).c1, (yy9.out.below kW).c0, (yy9.out.below kW).c1⟩)
          clear hK K hHeld; intro hHeld
          (try simp only [Act.put, List.setIfInBounds_toArray, List.set_cons_zero, List.set_cons_succ])
          refine wpAnyH_take (i := 9) (oi := ⟨some 108, _, _, _, _, _⟩) (v := ?_) rfl (by decide +kernel) (by decide +kernel) (by decide +kernel) (fun _ _ _ h => h) (Or.inl ⟨by rfl, ?_⟩) (by assumption) ?_
          rotate_left
          ·intro wq hSw; (try dsimp only at hSw); go_simp; (try with_reducible rfl)
          (try simp only [Act.put, List.setIfInBounds_toArray, List.set_cons_zero, List.set_cons_succ])
          refine wpAnyH_take (i := 10) (oi := ⟨some 109, _, _, _, _, _⟩) (v := ?_) rfl (by decide +kernel) (by decide +kernel) (by decide +kernel) (fun _ _ _ h => h) (Or.inl ⟨by rfl, ?_⟩) (by assumption) ?_
          rotate_left
          ·intro wq hSw; (try dsimp only at hSw); go_simp; (try with_reducible rfl)
          (try simp only [Act.put, List.setIfInBounds_toArray, List.set_cons_zero, List.set_cons_succ])
          refine wpAnyH_done ?_ ?_ _
          ·decide +kernel
          have kz := hide (grow_step (grow_step kW kq.out) k8.out)
          clear kW hHeld
          go_wp2_with fail
          exact ⟨⟨k + 1, by omega, by go_num, kz.out⟩, by simp [intOf]; omega⟩
    ·obtain rfl : k = an := by omega
     have kz := hide (grow_step kq kw7.out)
     clear kq
     go_wp2_with fail
     exact ⟨⟨i + 1, by omega, by go_num, kz.out⟩, by simp [intOf]; omega⟩
  ·obtain rfl : i = sn := by omega
   have kf := hide (grow_step kr kw.out)
   clear kr
   go_wp2
   exact bodyPost_ret (results_tmp rfl _ _ _) rfl ⟨rfl, kf.out⟩
end Pd
end Go.Proofs.Ytojciccmjpabmaa
