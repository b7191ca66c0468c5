/-
  Several texts in one: BJ, BK.
-/
import Derived.Test.YtjhhknfnaobmiaaGreatDoorJ12
import Derived.Test.YtjhhknfnaobmiaaGreatDoorJ10
import Derived.Test.YtjhhknfnaobmiaaGreatDoorJ13
namespace Go.Proofs.YtjhhknfnaobmiaaGreatDoor
open Go.RowKit Go.Sort Go.Shelf
open Tm At

theorem lq7 {w w' : World} {p q o : Nat} {ad : Option Addr} {n cp : Nat} {s : Bool} {a : Option Addr} {l c : Nat} {s2 : Bool} {a2 : Option Addr} {l2 c2 : Nat} {s3 : Bool} {a3 : Option Addr} {l3 c3 : Nat} (x : TB w p ad n cp s a l c) (z : ZB w o s2 a2 l2 c2) (z2 : ZB w q s3 a3 l3 c3) (k : Below w.heap.size w w') :
  w'.cell? ⟨p, 1, none⟩ = some (.bool s) ∧ w'.cell? ⟨p, 2, none⟩ = some (.slice a l c) ∧ w'.cell? ⟨o, 0, none⟩ = some (.bool s2) ∧ w'.cell? ⟨o, 1, none⟩ = some (.slice a2 l2 c2) ∧ w'.cell? ⟨q, 0, none⟩ = some (.bool s3) ∧ w'.cell? ⟨q, 1, none⟩ = some (.slice a3 l3 c3) ∧ Below w.heap.size w w' :=
 ⟨(x.below k).c1, (x.below k).c2, (z.below k).c0, (z.below k).c1, (z2.below k).c0, (z2.below k).c1, k⟩

set_option maxRecDepth 100000 in
set_option maxHeartbeats 6400000 in
theorem rless6_n {w : World} {ad : Option Addr} {n cp : Nat} {s : Bool} {a : Option Addr} {l c : Nat} {ps : List (Int × Int)} {k : Int} {B : Nat} (hP : Pr w ad n ps B) (hz : Zm w s a l c k) (hl : l ≤ B) (hn : n ≤ 262144) (hB : B + n ≤ 4194000) :
  Calls Tryz.prog 16 #[.agg #[.slice ad n cp, .bool s, .slice a l c]] w fun e w' => AW w' e (lessF (nz (lays [] ps)) k) (B + n + 16) w.heap.size ∧ Below w.heap.size w w' := by
 go_enter Tryz.func16, Tryz.ntmps16
 go_wp2_with fail
 have x := (tb_new w ad n cp s a l c).below (below_alloc _ (.cells #[.int .i64 0, .bool false, .slice none 0 0, .slice none 0 0, .bool false, .slice none 0 0] 29))
 have y : (((w.alloc (.cells #[.slice ad n cp, .bool s, .slice a l c] 27)).alloc (.cells #[.int .i64 0, .bool false, .slice none 0 0, .slice none 0 0, .bool false, .slice none 0 0] 29))).heap[w.heap.size + 1]? = some (.cells #[.int .i64 0, .bool false, .slice none 0 0, .slice none 0 0, .bool false, .slice none 0 0] 29 (0, 0)) := by
  have := heap_alloc_new (w.alloc (.cells #[.slice ad n cp, .bool s, .slice a l c] 27)) (.cells #[.int .i64 0, .bool false, .slice none 0 0, .slice none 0 0, .bool false, .slice none 0 0] 29)
  simpa using this
 have b0 : Below w.heap.size w ((w.alloc (.cells #[.slice ad n cp, .bool s, .slice a l c] 27)).alloc (.cells #[.int .i64 0, .bool false, .slice none 0 0, .slice none 0 0, .bool false, .slice none 0 0] 29)) := below_alloc' (below_alloc _ _) _
 generalize (w.alloc (.cells #[.slice ad n cp, .bool s, .slice a l c] 27)).alloc (.cells #[.int .i64 0, .bool false, .slice none 0 0, .slice none 0 0, .bool false, .slice none 0 0] 29) = wb at *
 replace hP := hP.below b0
 replace hz := hz.below b0
 have hpr : w.heap.size < w.heap.size + 1 := by omega
 generalize w.heap.size + 1 = r at *
 generalize hp : w.heap.size = p at *
 replace b0 : Hid (Below w.heap.size w wb) := hp ▸ b0
 replace hp := hide hp
 have hrl : r < wb.heap.size := (Array.getElem?_eq_some_iff.1 y).1
 refine (rnorm5_w hP hz hl (by omega) (by omega)).mono ?_
 rintro e w1 ⟨ad1, n1, cp1, s1, a1, l1, c1, rfl, hTW, hz1, k1, hn1, hP1, hnew1⟩
 have hl1 := hTW.2.2
 have hS : Std (nz (lays [] ps)) := std_lays ps
 generalize hqs : nz (lays [] ps) = qs at *
 replace hqs := hide hqs
 have xN := tb_new w1 ad1 n1 cp1 s1 a1 l1 c1
 have ka := below_alloc w1 (.cells #[.slice ad1 n1 cp1, .bool s1, .slice a1 l1 c1] 27)
 have y1 := (ka.block r (Nat.lt_of_lt_of_le hrl k1.size)).trans ((k1.block r hrl).trans y)
 have hz2 := hz1.below ka
 have hP2 := hP1.below ka
 have kk := hide (grow_step ka (grow_step k1 b0.out))
 have hnew2 : Hid (∀ b off, ad1 = some ⟨b, off, none⟩ → w.heap.size ≤ b ∧ b ≠ r) := (fun b off e => by have h1 := hnew1 b off e; have h2 := hp.out; omega)
 have hs1 := k1.size
 have HH := hide (And.intro xN (And.intro y1 (And.intro hz2 hP2)))
 replace hS := hide hS
 clear hTW hz1 k1 hP1 hnew1 xN ka y1 hz2 hP2 b0 x y hP hz
 by_cases h0 : n1 = 0
 ·subst h0
  obtain rfl : qs = [] := List.length_eq_zero_iff.1 HH.out.2.2.2.1
  go_wp2_with fail
  obtain ⟨xN, y1, hz2, hP2⟩ := HH.out
  clear HH
  generalize w1.alloc (.cells #[.slice ad1 0 cp1, .bool s1, .slice a1 l1 c1] 27) = wn at *
  generalize w1.heap.size = bn at *
  refine (rsign_n hz2.zm (by omega)).mono ?_
  rintro e w3 ⟨rfl, k3⟩
  have hrn : r < wn.heap.size := (Array.getElem?_eq_some_iff.1 y1).1
  have y3 := (k3.block r hrn).trans y1
  replace kk := hide (grow_step k3 kk.out)
  have hcz : Hid (∀ b : Bool, b = decide (0 < cmpI k 0) → lessF [] k = ⟨if b then 1 else 0, 0, [], 0⟩) := fun b hb => by
   subst hb
   unfold lessF tru
   rw [if_pos rfl]
   by_cases h9 : 0 < k <;> simp [h9, cmpI_pos]
  clear k3 y1 hz2 hP2 xN
  generalize cmpI k 0 = cz at *
  go_wp2_with fail
  refine (rconst6_n).mono ?_
  rintro e w4 ⟨rfl, k4⟩
  have hr3 : r < w3.heap.size := (Array.getElem?_eq_some_iff.1 y3).1
  have y4 : AB w4 r 0 false none 0 0 none 0 0 false none 0 0 := (k4.block r hr3).trans y3
  have hF := hide (hcz.out _ rfl)
  generalize decide (0 < cz) = bb at *
  have hkf := grow_step k4 kk.out
  generalize hki : (if bb = true then (1 : Int) else 0) = ki at *
  have e0 := y4.c0
  have e1 := y4.c1
  have e2 := y4.c2
  have e3 := y4.c3
  have e4 := y4.c4
  have e5 := y4.c5
  have f0 := y4.f 0
  have f1 := y4.f 1
  have f2 := y4.f 2
  have f3 := y4.f 3
  have f4 := y4.f 4
  have f5 := y4.f 5
  have HH := hide (And.intro (ab_fin y4 ki false none 0 0 none 0 0 false none 0 0) (below_grown hkf (ab_set w4 r (.int .i64 ki) (.bool false) (.slice none 0 0) (.slice none 0 0) (.bool false) (.slice none 0 0)) (show w.heap.size ≤ r by have := hp.out; omega)))
  clear k4 kk y3 y4 hkf hcz hki
  go_wp2
  refine bodyPost_ret (results_cell_row rfl _ _ r 29 _ (0, 0) _ rfl HH.out.1 Tryz.underlying29 rfl (by kernel_rfl)) rfl ?_
  refine ⟨?_, HH.out.2⟩
  rw [hqs.out, hF.out]
  exact ⟨false, none, 0, 0, none, 0, 0, false, none, 0, 0, by simp, zn_zero _, by omega, pn_nil _ _ _, by omega, zn_zero _, by omega, fun _ _ h => by cases h⟩
 ·have i0 : (((n1 : Nat) : Int) == 0) = false := by rw [beq_eq_false_iff_ne]; omega
  go_wp2_with fail
  obtain ⟨xN, y1, hz2, hP2⟩ := HH.out
  clear HH
  generalize w1.alloc (.cells #[.slice ad1 n1 cp1, .bool s1, .slice a1 l1 c1] 27) = wn at *
  generalize w1.heap.size = bn at *
  have hrn : r < wn.heap.size := (Array.getElem?_eq_some_iff.1 y1).1
  refine (coefs_n hP2.pr (by omega)).mono ?_
  rintro e w3 ⟨vN, N, rfl, hrow, hN, hokN, hNz, k3⟩
  replace hokN : ∀ x ∈ N, okN w3 _ x := fun x hx => (hokN x hx).below k3
  have hpos3 : 0 < w3.heap.size := by have := k3.size; omega
  obtain ⟨adl, cap, bl, rfl, had, hZL⟩ := row_zl hrow hN hokN (by omega) hpos3
  obtain rfl := had (by omega)
  have hfl : ∀ i, i < n1 → (N.getD i zr).l ≤ B + n + 1 := fun i hi => by rw [getD_at (by omega)]; exact (hokN _ (List.getElem_mem _)).2
  have hval : Hid (fold gcdI 0 (fun i => ((N.getD i zr).z.natAbs : Int)) n1 = ((gcdL 0 qs : Nat) : Int)) := (show _ = _ by rw [fold_gcd N n1 (by omega), List.take_of_length_le (by omega), hNz, gcdZ_all])
  replace xN := xN.below k3
  replace y1 := (k3.block r hrn).trans y1
  replace hz2 := hz2.below k3
  replace hP2 := hP2.below k3
  replace kk := hide (grow_step k3 kk.out)
  clear hrow hokN hNz k3 had
  go_wp2_with fail
  refine (rgcd6_list hZL hfl (by omega) (by omega)).mono ?_
  rintro e w4 ⟨sg, ag, lg, cg, rfl, hzg, k4, hlg⟩
  rw [hval.out] at hzg
  have zg := zb_new w4 sg ag lg cg
  have kg := below_alloc w4 (.cells #[.bool sg, .slice ag lg cg] 24)
  have hpos9 : (0 : Int) < ((gcdL 0 qs : Nat) : Int) := by
   have h9 : qs ≠ [] := fun e => h0 (by rw [← hP2.1, e]; rfl)
   have := gcdL_pos (g := 0) (qs := qs) (.inr (std_some hS.out h9))
   omega
  replace xN := (xN.below k4).below kg
  have hr3 : r < w3.heap.size := (Array.getElem?_eq_some_iff.1 y1).1
  have hr4 : r < w4.heap.size := Nat.lt_of_lt_of_le hr3 k4.size
  replace y1 := (kg.block r hr4).trans ((k4.block r hr3).trans y1)
  replace hz2 := (hz2.below k4).below kg
  replace hP2 := (hP2.below k4).below kg
  replace hzg := hzg.below kg
  replace kk := hide (grow_step kg (grow_step k4 kk.out))
  have HH := hide (And.intro xN (And.intro y1 (And.intro hz2 (And.intro hP2 (And.intro hzg zg)))))
  clear xN y1 hz2 hP2 hzg zg k4 kg hZL hfl hval
  go_wp2_with fail
  obtain ⟨xN, y1, hz2, hP2, hzg, zg⟩ := HH.out
  clear HH
  generalize w4.alloc (.cells #[.bool sg, .slice ag lg cg] 24) = w5 at *
  generalize w4.heap.size = bg at *
  refine (rof_n 1 (by decide) (by decide) w5).mono ?_
  rintro e w6 ⟨s6, a6, l6, c6, rfl, hz6, k6, hl6⟩
  have zo := zb_new w6 s6 a6 l6 c6
  have kg := below_alloc w6 (.cells #[.bool s6, .slice a6 l6 c6] 24)
  have hr5 : r < w5.heap.size := (Array.getElem?_eq_some_iff.1 y1).1
  have hr6 : r < w6.heap.size := Nat.lt_of_lt_of_le hr5 k6.size
  replace xN := (xN.below k6).below kg
  replace y1 := (kg.block r hr6).trans ((k6.block r hr5).trans y1)
  replace hz2 := (hz2.below k6).below kg
  replace hP2 := (hP2.below k6).below kg
  replace hzg := (hzg.below k6).below kg
  replace zg := (zg.below k6).below kg
  replace hz6 := hz6.below kg
  replace kk := hide (grow_step kg (grow_step k6 kk.out))
  have HH := hide (And.intro xN (And.intro y1 (And.intro hz2 (And.intro hP2 (And.intro hzg (And.intro zg (And.intro hz6 zo)))))))
  clear xN y1 hz2 hP2 hzg zg k6 kg hz6 zo
  go_wp2_with fail
  obtain ⟨xN, y1, hz2, hP2, hzg, zg, hz6, zo⟩ := HH.out
  clear HH
  generalize w6.alloc (.cells #[.bool s6, .slice a6 l6 c6] 24) = w7 at *
  generalize w6.heap.size = bo at *
  refine Code.wp_mono (Q := fun e a' W' => e = .normal ∧ ∃ bO sA aA lA cA sB aB lB cB sC aC lC cC, a' = ⟨List.toArray ((.agg #[.slice ad n cp, .bool s, .slice a l c] : Value) :: (.pointer (some ⟨p, 0, none⟩) : Value) :: (.pointer (some ⟨r, 0, none⟩) : Value) :: (.pointer (some ⟨bn, 0, none⟩) : Value) :: (undef : Value) :: (.pointer (some ⟨bg, 0, none⟩) : Value) :: (.pointer (some ⟨bo, 0, none⟩) : Value) :: (.pointer (some ⟨bO, 0, none⟩) : Value) :: (undef : Value) :: (.agg #[.slice ad n cp, .bool s, .slice a l c] : Value) :: (.agg #[.slice ad1 n1 cp1, .bool s1, .slice a1 l1 c1] : Value) :: (.pointer (some ⟨bn, 0, none⟩) : Value) :: (.slice ad1 n1 cp1 : Value) :: (.int .i64 n1 : Value) :: (.bool false : Value) :: (undef : Value) :: (undef : Value) :: (undef : Value) :: (undef : Value) :: (undef : Value) :: (undef : Value) :: (.agg #[.slice ad1 n1 cp1, .bool s1, .slice a1 l1 c1] : Value) :: (.slice (some ⟨bl, 0, none⟩) n1 cap : Value) :: (.agg #[.bool sg, .slice ag lg cg] : Value) :: (.agg #[.bool s6, .slice a6 l6 c6] : Value) :: (.pointer (some ⟨bn, 1, none⟩) : Value) :: (.agg #[.bool s1, .slice a1 l1 c1] : Value) :: (.agg #[.bool s6, .slice a6 l6 c6] : Value) :: (.agg #[.bool sA, .slice aA lA cA] : Value) :: (.agg #[.bool sg, .slice ag lg cg] : Value) :: (.agg #[.bool sB, .slice aB lB cB] : Value) :: (.agg #[.bool s6, .slice a6 l6 c6] : Value) :: (.agg #[.bool sC, .slice aC lC cC] : Value) :: (.agg #[.slice none 0 0, .bool sC, .slice aC lC cC] : Value) :: (undef : Value) :: (undef : Value) :: (undef : Value) :: (undef : Value) :: (undef : Value) :: (undef : Value) :: (undef : Value) :: (undef : Value) :: (undef : Value) :: (undef : Value) :: (undef : Value) :: (undef : Value) :: (undef : Value) :: (undef : Value) :: (undef : Value) :: (undef : Value) :: (undef : Value) :: (undef : Value) :: (undef : Value) :: (undef : Value) :: (undef : Value) :: (undef : Value) :: (undef : Value) :: (undef : Value) :: (undef : Value) :: (undef : Value) :: (undef : Value) :: (undef : Value) :: (undef : Value) :: []), []⟩ ∧ TB W' bO none 0 0 sC aC lC cC ∧ Zn W' sC aC lC cC ((k - 1) / ((gcdL 0 qs : Nat) : Int) + 1) ∧ lC ≤ B + n + 7 ∧ w7.heap.size ≤ bO ∧ Below w7.heap.size w7 W') ?_ ?_
  rotate_left
  ·refine wp_region_held_drew (S := (fun w' => w'.cell? ⟨bn, 1, none⟩ = some (.bool s1) ∧ w'.cell? ⟨bn, 2, none⟩ = some (.slice a1 l1 c1) ∧ w'.cell? ⟨bo, 0, none⟩ = some (.bool s6) ∧ w'.cell? ⟨bo, 1, none⟩ = some (.slice a6 l6 c6) ∧ w'.cell? ⟨bg, 0, none⟩ = some (.bool sg) ∧ w'.cell? ⟨bg, 1, none⟩ = some (.slice ag lg cg) ∧ Below w7.heap.size w7 w')) (by kernel_rfl) (lq7 xN zo zg (grow_drew (Below.refl _ _))) (fun hHeld => ?_)
   show wpAnyH _ _ _ _ _ 11 _ _ _
   have kW := grow_drew (Below.refl w7.heap.size w7)
   generalize w7.drew = wQ at *
   refine wpAnyH_take (i := 0) (oi := ⟨some 25, _, _, _, _, _⟩) (v := ?_) rfl (by kernel_rfl) (by kernel_rfl) (by kernel_rfl) (fun _ _ _ h => nomatch h.1) (Or.inl ⟨by rfl, ?_⟩) (by assumption) ?_
   rotate_left
   ·intro wq hSw; (try dsimp only at hSw); go_simp; (try with_reducible rfl)
   (try simp only [Act.put, List.setIfInBounds_toArray, List.set_cons_zero, List.set_cons_succ])
   refine wpAnyH_take (i := 1) (oi := ⟨some 26, _, _, _, _, _⟩) (v := ?_) rfl (by kernel_rfl) (by kernel_rfl) (by kernel_rfl) (fun _ _ _ h => nomatch h.1) (Or.inl ⟨by rfl, ?_⟩) (by assumption) ?_
   rotate_left
   ·intro wq hSw; (try dsimp only at hSw); go_simp; (try with_reducible rfl)
   (try simp only [Act.put, List.setIfInBounds_toArray, List.set_cons_zero, List.set_cons_succ])
   refine wpAnyH_take (i := 2) (oi := ⟨some 27, _, _, _, _, _⟩) (v := ?_) rfl (by kernel_rfl) (by kernel_rfl) (by kernel_rfl) (fun _ _ _ h => nomatch h.1) (Or.inl ⟨by rfl, ?_⟩) (by assumption) ?_
   rotate_left
   ·intro wq hSw; (try dsimp only at hSw); go_simp; (try with_reducible rfl)
   (try simp only [Act.put, List.setIfInBounds_toArray, List.set_cons_zero, List.set_cons_succ])
   refine wpAnyH_take (i := 4) (oi := ⟨some 29, _, _, _, _, _⟩) (v := ?_) rfl (by kernel_rfl) (by kernel_rfl) (by kernel_rfl) (fun _ _ _ h => nomatch h.1) (Or.inl ⟨by rfl, ?_⟩) (by assumption) ?_
   rotate_left
   ·intro wq hSw; (try dsimp only at hSw); go_simp; (try with_reducible rfl)
   (try simp only [Act.put, List.setIfInBounds_toArray, List.set_cons_zero, List.set_cons_succ])
   refine wpAnyH_take (i := 6) (oi := ⟨some 31, _, _, _, _, _⟩) (v := ?_) rfl (by kernel_rfl) (by kernel_rfl) (by kernel_rfl) (fun _ _ _ h => nomatch h.1) (Or.inl ⟨by rfl, ?_⟩) (by assumption) ?_
   rotate_left
   ·intro wq hSw; (try dsimp only at hSw); go_simp; (try with_reducible rfl)
   (try simp only [Act.put, List.setIfInBounds_toArray, List.set_cons_zero, List.set_cons_succ])
   refine wpAnyH_ready (rs := [3, 9]) (by kernel_rfl) (by simp) ?_
   refine AllReadyH.cons (o := ⟨some 28, _, _, _, _, _⟩) rfl (fun K hK => ?_) ?_
   ·go_simp
    go_at_call 58; refine Calls.mono (rsub2_n (hz2.zm.below kW) (hz6.zm.below kW) (by omega) (by omega)) ?_; rintro e wA ⟨sA, aA, lA, cA, rfl, hA, kA, hlA⟩
    have kW := grow_step kA kW
    (try go_wp2_with fail)
    refine hK.out _ _ ?_ ?_
    ·(try dsimp only); exact lq7 xN zo zg kW
    clear hK K hHeld; intro hHeld
    (try simp only [Act.put, List.setIfInBounds_toArray, List.set_cons_zero, List.set_cons_succ])
    refine wpAnyH_ready (rs := [5, 9]) (by kernel_rfl) (by simp) ?_
    refine AllReadyH.cons (o := ⟨some 30, _, _, _, _, _⟩) rfl (fun K hK => ?_) ?_
    ·go_simp
     go_at_call 57; refine Calls.mono (rfloor6_n hA.zm (hzg.zm.below kW) (by omega) (by omega) hpos9) ?_; rintro e wB ⟨sB, aB, lB, cB, rfl, hBz, kB, hlB⟩
     have hA := hA.below kB
     have kW := grow_step kB kW
     (try go_wp2_with fail)
     refine hK.out _ _ ?_ ?_
     ·(try dsimp only); exact lq7 xN zo zg kW
     clear hK K hHeld; intro hHeld
     (try simp only [Act.put, List.setIfInBounds_toArray, List.set_cons_zero, List.set_cons_succ])
     refine wpAnyH_ready (rs := [7, 9]) (by kernel_rfl) (by simp) ?_
     refine AllReadyH.cons (o := ⟨some 32, _, _, _, _, _⟩) rfl (fun K hK => ?_) ?_
     ·go_simp
      go_at_call 56; refine Calls.mono (radd2_n hBz.zm (hz6.zm.below kW) (by omega) (by omega)) ?_; rintro e wC ⟨sC, aC, lC, cC, rfl, hC, kC, hlC⟩
      have hA := hA.below kC
      have hBz := hBz.below kC
      have kW := grow_step kC kW
      (try go_wp2_with fail)
      refine hK.out _ _ ?_ ?_
      ·(try dsimp only); exact lq7 xN zo zg kW
      clear hK K hHeld; intro hHeld
      (try simp only [Act.put, List.setIfInBounds_toArray, List.set_cons_zero, List.set_cons_succ])
      refine wpAnyH_ready (rs := [8, 9]) (by kernel_rfl) (by simp) ?_
      refine AllReadyH.cons (o := ⟨some 33, _, _, _, _, _⟩) rfl (fun K hK => ?_) ?_
      ·skip
       go_simp
       refine hK.out _ _ ?_ ?_
       ·(try dsimp only); exact lq7 xN zo zg kW
       clear hK K hHeld; intro hHeld
       (try simp only [Act.put, List.setIfInBounds_toArray, List.set_cons_zero, List.set_cons_succ])
       refine wpAnyH_ready (rs := [9]) (by kernel_rfl) (by simp) ?_
       refine AllReadyH.cons (o := ⟨some 7, _, _, _, _, _⟩) rfl (fun K hK => ?_) ?_
       ·have kL := below_alloc (wC) (.cells #[.slice none 0 0, .bool false, .slice none 0 0] 27)
        have hA := hA.below kL
        have hBz := hBz.below kL
        have hC := hC.below kL
        have zO : TB ((wC).alloc (.cells #[.slice none 0 0, .bool false, .slice none 0 0] 27)) (wC.heap.size) none 0 0 false none 0 0 := tb_new _ _ _ _ _ _ _ _
        have hbzO : w7.heap.size ≤ wC.heap.size := kW.size
        have kW := grow_step kL kW
        go_simp
        refine hK.out _ _ ?_ ?_
        ·(try dsimp only); exact lq7 xN zo zg kW
        clear hK K hHeld; intro hHeld
        (try simp only [Act.put, List.setIfInBounds_toArray, List.set_cons_zero, List.set_cons_succ])
        generalize (wC).alloc (.cells #[.slice none 0 0, .bool false, .slice none 0 0] 27) = wLzO at *
        refine wpAnyH_ready (rs := [10]) (by kernel_rfl) (by simp) ?_
        refine AllReadyH.cons (o := ⟨none, _, _, _, _, _⟩) rfl (fun K hK => ?_) ?_
        ·skip
         have f0 := zO.c0
         have f1 := zO.c1
         have f2 := zO.c2
         have f3 := zO.f 0
         have f4 := zO.f 1
         have f5 := zO.f 2
         go_simp
         have gS := tb_set wLzO (wC.heap.size) (.slice none 0 0) (.bool sC) (.slice aC lC cC)
         have hC := hC.grownU gS (tb_noU zO)
         have zO := tb_fin zO none 0 0 sC aC lC cC
         have kW := ((kW.setCell (p := ⟨wC.heap.size, 0, none⟩) hbzO (.slice none 0 0)).setCell (p := ⟨wC.heap.size, 1, none⟩) hbzO (.bool sC)).setCell (p := ⟨wC.heap.size, 2, none⟩) hbzO (.slice aC lC cC)
         refine hK.out _ _ ?_ ?_
         ·(try dsimp only); exact lq7 xN zo zg kW
         clear hK K hHeld; intro hHeld
         (try simp only [Act.put, List.setIfInBounds_toArray, List.set_cons_zero, List.set_cons_succ])
         refine wpAnyH_done (by kernel_rfl) ?_ _
         exact ⟨rfl, _, sA, aA, lA, cA, sB, aB, lB, cB, sC, aC, lC, cC, rfl, zO, hC, by omega, hbzO, kW⟩
        exact AllReadyH.nil
       exact AllReadyH.nil
      refine AllReadyH.cons (o := ⟨some 7, _, _, _, _, _⟩) rfl (fun K hK => ?_) ?_
      ·have kL := below_alloc (wC) (.cells #[.slice none 0 0, .bool false, .slice none 0 0] 27)
       have hA := hA.below kL
       have hBz := hBz.below kL
       have hC := hC.below kL
       have zO : TB ((wC).alloc (.cells #[.slice none 0 0, .bool false, .slice none 0 0] 27)) (wC.heap.size) none 0 0 false none 0 0 := tb_new _ _ _ _ _ _ _ _
       have hbzO : w7.heap.size ≤ wC.heap.size := kW.size
       have kW := grow_step kL kW
       go_simp
       refine hK.out _ _ ?_ ?_
       ·(try dsimp only); exact lq7 xN zo zg kW
       clear hK K hHeld; intro hHeld
       (try simp only [Act.put, List.setIfInBounds_toArray, List.set_cons_zero, List.set_cons_succ])
       generalize (wC).alloc (.cells #[.slice none 0 0, .bool false, .slice none 0 0] 27) = wLzO at *
       refine wpAnyH_ready (rs := [8]) (by kernel_rfl) (by simp) ?_
       refine AllReadyH.cons (o := ⟨some 33, _, _, _, _, _⟩) rfl (fun K hK => ?_) ?_
       ·skip
        go_simp
        refine hK.out _ _ ?_ ?_
        ·(try dsimp only); exact lq7 xN zo zg kW
        clear hK K hHeld; intro hHeld
        (try simp only [Act.put, List.setIfInBounds_toArray, List.set_cons_zero, List.set_cons_succ])
        refine wpAnyH_ready (rs := [10]) (by kernel_rfl) (by simp) ?_
        refine AllReadyH.cons (o := ⟨none, _, _, _, _, _⟩) rfl (fun K hK => ?_) ?_
        ·skip
         have f0 := zO.c0
         have f1 := zO.c1
         have f2 := zO.c2
         have f3 := zO.f 0
         have f4 := zO.f 1
         have f5 := zO.f 2
         go_simp
         have gS := tb_set wLzO (wC.heap.size) (.slice none 0 0) (.bool sC) (.slice aC lC cC)
         have hC := hC.grownU gS (tb_noU zO)
         have zO := tb_fin zO none 0 0 sC aC lC cC
         have kW := ((kW.setCell (p := ⟨wC.heap.size, 0, none⟩) hbzO (.slice none 0 0)).setCell (p := ⟨wC.heap.size, 1, none⟩) hbzO (.bool sC)).setCell (p := ⟨wC.heap.size, 2, none⟩) hbzO (.slice aC lC cC)
         refine hK.out _ _ ?_ ?_
         ·(try dsimp only); exact lq7 xN zo zg kW
         clear hK K hHeld; intro hHeld
         (try simp only [Act.put, List.setIfInBounds_toArray, List.set_cons_zero, List.set_cons_succ])
         refine wpAnyH_done (by kernel_rfl) ?_ _
         exact ⟨rfl, _, sA, aA, lA, cA, sB, aB, lB, cB, sC, aC, lC, cC, rfl, zO, hC, by omega, hbzO, kW⟩
        exact AllReadyH.nil
       exact AllReadyH.nil
      exact AllReadyH.nil
     refine AllReadyH.cons (o := ⟨some 7, _, _, _, _, _⟩) rfl (fun K hK => ?_) ?_
     ·have kL := below_alloc (wB) (.cells #[.slice none 0 0, .bool false, .slice none 0 0] 27)
      have hA := hA.below kL
      have hBz := hBz.below kL
      have zO : TB ((wB).alloc (.cells #[.slice none 0 0, .bool false, .slice none 0 0] 27)) (wB.heap.size) none 0 0 false none 0 0 := tb_new _ _ _ _ _ _ _ _
      have hbzO : w7.heap.size ≤ wB.heap.size := kW.size
      have kW := grow_step kL kW
      go_simp
      refine hK.out _ _ ?_ ?_
      ·(try dsimp only); exact lq7 xN zo zg kW
      clear hK K hHeld; intro hHeld
      (try simp only [Act.put, List.setIfInBounds_toArray, List.set_cons_zero, List.set_cons_succ])
      generalize (wB).alloc (.cells #[.slice none 0 0, .bool false, .slice none 0 0] 27) = wLzO at *
      refine wpAnyH_ready (rs := [7]) (by kernel_rfl) (by simp) ?_
      refine AllReadyH.cons (o := ⟨some 32, _, _, _, _, _⟩) rfl (fun K hK => ?_) ?_
      ·go_simp
       go_at_call 56; refine Calls.mono (radd2_n hBz.zm (hz6.zm.below kW) (by omega) (by omega)) ?_; rintro e wC ⟨sC, aC, lC, cC, rfl, hC, kC, hlC⟩
       have hA := hA.below kC
       have hBz := hBz.below kC
       have zO := zO.below kC
       have kW := grow_step kC kW
       (try go_wp2_with fail)
       refine hK.out _ _ ?_ ?_
       ·(try dsimp only); exact lq7 xN zo zg kW
       clear hK K hHeld; intro hHeld
       (try simp only [Act.put, List.setIfInBounds_toArray, List.set_cons_zero, List.set_cons_succ])
       refine wpAnyH_ready (rs := [8]) (by kernel_rfl) (by simp) ?_
       refine AllReadyH.cons (o := ⟨some 33, _, _, _, _, _⟩) rfl (fun K hK => ?_) ?_
       ·skip
        go_simp
        refine hK.out _ _ ?_ ?_
        ·(try dsimp only); exact lq7 xN zo zg kW
        clear hK K hHeld; intro hHeld
        (try simp only [Act.put, List.setIfInBounds_toArray, List.set_cons_zero, List.set_cons_succ])
        refine wpAnyH_ready (rs := [10]) (by kernel_rfl) (by simp) ?_
        refine AllReadyH.cons (o := ⟨none, _, _, _, _, _⟩) rfl (fun K hK => ?_) ?_
        ·skip
         have f0 := zO.c0
         have f1 := zO.c1
         have f2 := zO.c2
         have f3 := zO.f 0
         have f4 := zO.f 1
         have f5 := zO.f 2
         go_simp
         have gS := tb_set wC (wB.heap.size) (.slice none 0 0) (.bool sC) (.slice aC lC cC)
         have hC := hC.grownU gS (tb_noU zO)
         have zO := tb_fin zO none 0 0 sC aC lC cC
         have kW := ((kW.setCell (p := ⟨wB.heap.size, 0, none⟩) hbzO (.slice none 0 0)).setCell (p := ⟨wB.heap.size, 1, none⟩) hbzO (.bool sC)).setCell (p := ⟨wB.heap.size, 2, none⟩) hbzO (.slice aC lC cC)
         refine hK.out _ _ ?_ ?_
         ·(try dsimp only); exact lq7 xN zo zg kW
         clear hK K hHeld; intro hHeld
         (try simp only [Act.put, List.setIfInBounds_toArray, List.set_cons_zero, List.set_cons_succ])
         refine wpAnyH_done (by kernel_rfl) ?_ _
         exact ⟨rfl, _, sA, aA, lA, cA, sB, aB, lB, cB, sC, aC, lC, cC, rfl, zO, hC, by omega, hbzO, kW⟩
        exact AllReadyH.nil
       exact AllReadyH.nil
      exact AllReadyH.nil
     exact AllReadyH.nil
    refine AllReadyH.cons (o := ⟨some 7, _, _, _, _, _⟩) rfl (fun K hK => ?_) ?_
    ·have kL := below_alloc (wA) (.cells #[.slice none 0 0, .bool false, .slice none 0 0] 27)
     have hA := hA.below kL
     have zO : TB ((wA).alloc (.cells #[.slice none 0 0, .bool false, .slice none 0 0] 27)) (wA.heap.size) none 0 0 false none 0 0 := tb_new _ _ _ _ _ _ _ _
     have hbzO : w7.heap.size ≤ wA.heap.size := kW.size
     have kW := grow_step kL kW
     go_simp
     refine hK.out _ _ ?_ ?_
     ·(try dsimp only); exact lq7 xN zo zg kW
     clear hK K hHeld; intro hHeld
     (try simp only [Act.put, List.setIfInBounds_toArray, List.set_cons_zero, List.set_cons_succ])
     generalize (wA).alloc (.cells #[.slice none 0 0, .bool false, .slice none 0 0] 27) = wLzO at *
     refine wpAnyH_ready (rs := [5]) (by kernel_rfl) (by simp) ?_
     refine AllReadyH.cons (o := ⟨some 30, _, _, _, _, _⟩) rfl (fun K hK => ?_) ?_
     ·go_simp
      go_at_call 57; refine Calls.mono (rfloor6_n hA.zm (hzg.zm.below kW) (by omega) (by omega) hpos9) ?_; rintro e wB ⟨sB, aB, lB, cB, rfl, hBz, kB, hlB⟩
      have hA := hA.below kB
      have zO := zO.below kB
      have kW := grow_step kB kW
      (try go_wp2_with fail)
      refine hK.out _ _ ?_ ?_
      ·(try dsimp only); exact lq7 xN zo zg kW
      clear hK K hHeld; intro hHeld
      (try simp only [Act.put, List.setIfInBounds_toArray, List.set_cons_zero, List.set_cons_succ])
      refine wpAnyH_ready (rs := [7]) (by kernel_rfl) (by simp) ?_
      refine AllReadyH.cons (o := ⟨some 32, _, _, _, _, _⟩) rfl (fun K hK => ?_) ?_
      ·go_simp
       go_at_call 56; refine Calls.mono (radd2_n hBz.zm (hz6.zm.below kW) (by omega) (by omega)) ?_; rintro e wC ⟨sC, aC, lC, cC, rfl, hC, kC, hlC⟩
       have hA := hA.below kC
       have zO := zO.below kC
       have hBz := hBz.below kC
       have kW := grow_step kC kW
       (try go_wp2_with fail)
       refine hK.out _ _ ?_ ?_
       ·(try dsimp only); exact lq7 xN zo zg kW
       clear hK K hHeld; intro hHeld
       (try simp only [Act.put, List.setIfInBounds_toArray, List.set_cons_zero, List.set_cons_succ])
       refine wpAnyH_ready (rs := [8]) (by kernel_rfl) (by simp) ?_
       refine AllReadyH.cons (o := ⟨some 33, _, _, _, _, _⟩) rfl (fun K hK => ?_) ?_
       ·skip
        go_simp
        refine hK.out _ _ ?_ ?_
        ·(try dsimp only); exact lq7 xN zo zg kW
        clear hK K hHeld; intro hHeld
        (try simp only [Act.put, List.setIfInBounds_toArray, List.set_cons_zero, List.set_cons_succ])
        refine wpAnyH_ready (rs := [10]) (by kernel_rfl) (by simp) ?_
        refine AllReadyH.cons (o := ⟨none, _, _, _, _, _⟩) rfl (fun K hK => ?_) ?_
        ·skip
         have f0 := zO.c0
         have f1 := zO.c1
         have f2 := zO.c2
         have f3 := zO.f 0
         have f4 := zO.f 1
         have f5 := zO.f 2
         go_simp
         have gS := tb_set wC (wA.heap.size) (.slice none 0 0) (.bool sC) (.slice aC lC cC)
         have hC := hC.grownU gS (tb_noU zO)
         have zO := tb_fin zO none 0 0 sC aC lC cC
         have kW := ((kW.setCell (p := ⟨wA.heap.size, 0, none⟩) hbzO (.slice none 0 0)).setCell (p := ⟨wA.heap.size, 1, none⟩) hbzO (.bool sC)).setCell (p := ⟨wA.heap.size, 2, none⟩) hbzO (.slice aC lC cC)
         refine hK.out _ _ ?_ ?_
         ·(try dsimp only); exact lq7 xN zo zg kW
         clear hK K hHeld; intro hHeld
         (try simp only [Act.put, List.setIfInBounds_toArray, List.set_cons_zero, List.set_cons_succ])
         refine wpAnyH_done (by kernel_rfl) ?_ _
         exact ⟨rfl, _, sA, aA, lA, cA, sB, aB, lB, cB, sC, aC, lC, cC, rfl, zO, hC, by omega, hbzO, kW⟩
        exact AllReadyH.nil
       exact AllReadyH.nil
      exact AllReadyH.nil
     exact AllReadyH.nil
    exact AllReadyH.nil
   refine AllReadyH.cons (o := ⟨some 7, _, _, _, _, _⟩) rfl (fun K hK => ?_) ?_
   ·have kL := below_alloc (wQ) (.cells #[.slice none 0 0, .bool false, .slice none 0 0] 27)
    have zO : TB ((wQ).alloc (.cells #[.slice none 0 0, .bool false, .slice none 0 0] 27)) (wQ.heap.size) none 0 0 false none 0 0 := tb_new _ _ _ _ _ _ _ _
    have hbzO : w7.heap.size ≤ wQ.heap.size := kW.size
    have kW := grow_step kL kW
    go_simp
    refine hK.out _ _ ?_ ?_
    ·(try dsimp only); exact lq7 xN zo zg kW
    clear hK K hHeld; intro hHeld
    (try simp only [Act.put, List.setIfInBounds_toArray, List.set_cons_zero, List.set_cons_succ])
    generalize (wQ).alloc (.cells #[.slice none 0 0, .bool false, .slice none 0 0] 27) = wLzO at *
    refine wpAnyH_ready (rs := [3]) (by kernel_rfl) (by simp) ?_
    refine AllReadyH.cons (o := ⟨some 28, _, _, _, _, _⟩) rfl (fun K hK => ?_) ?_
    ·go_simp
     go_at_call 58; refine Calls.mono (rsub2_n (hz2.zm.below kW) (hz6.zm.below kW) (by omega) (by omega)) ?_; rintro e wA ⟨sA, aA, lA, cA, rfl, hA, kA, hlA⟩
     have zO := zO.below kA
     have kW := grow_step kA kW
     (try go_wp2_with fail)
     refine hK.out _ _ ?_ ?_
     ·(try dsimp only); exact lq7 xN zo zg kW
     clear hK K hHeld; intro hHeld
     (try simp only [Act.put, List.setIfInBounds_toArray, List.set_cons_zero, List.set_cons_succ])
     refine wpAnyH_ready (rs := [5]) (by kernel_rfl) (by simp) ?_
     refine AllReadyH.cons (o := ⟨some 30, _, _, _, _, _⟩) rfl (fun K hK => ?_) ?_
     ·go_simp
      go_at_call 57; refine Calls.mono (rfloor6_n hA.zm (hzg.zm.below kW) (by omega) (by omega) hpos9) ?_; rintro e wB ⟨sB, aB, lB, cB, rfl, hBz, kB, hlB⟩
      have zO := zO.below kB
      have hA := hA.below kB
      have kW := grow_step kB kW
      (try go_wp2_with fail)
      refine hK.out _ _ ?_ ?_
      ·(try dsimp only); exact lq7 xN zo zg kW
      clear hK K hHeld; intro hHeld
      (try simp only [Act.put, List.setIfInBounds_toArray, List.set_cons_zero, List.set_cons_succ])
      refine wpAnyH_ready (rs := [7]) (by kernel_rfl) (by simp) ?_
      refine AllReadyH.cons (o := ⟨some 32, _, _, _, _, _⟩) rfl (fun K hK => ?_) ?_
      ·go_simp
       go_at_call 56; refine Calls.mono (radd2_n hBz.zm (hz6.zm.below kW) (by omega) (by omega)) ?_; rintro e wC ⟨sC, aC, lC, cC, rfl, hC, kC, hlC⟩
       have zO := zO.below kC
       have hA := hA.below kC
       have hBz := hBz.below kC
       have kW := grow_step kC kW
       (try go_wp2_with fail)
       refine hK.out _ _ ?_ ?_
       ·(try dsimp only); exact lq7 xN zo zg kW
       clear hK K hHeld; intro hHeld
       (try simp only [Act.put, List.setIfInBounds_toArray, List.set_cons_zero, List.set_cons_succ])
       refine wpAnyH_ready (rs := [8]) (by kernel_rfl) (by simp) ?_
       refine AllReadyH.cons (o := ⟨some 33, _, _, _, _, _⟩) rfl (fun K hK => ?_) ?_
       ·skip
        go_simp
        refine hK.out _ _ ?_ ?_
        ·(try dsimp only); exact lq7 xN zo zg kW
        clear hK K hHeld; intro hHeld
        (try simp only [Act.put, List.setIfInBounds_toArray, List.set_cons_zero, List.set_cons_succ])
        refine wpAnyH_ready (rs := [10]) (by kernel_rfl) (by simp) ?_
        refine AllReadyH.cons (o := ⟨none, _, _, _, _, _⟩) rfl (fun K hK => ?_) ?_
        ·skip
         have f0 := zO.c0
         have f1 := zO.c1
         have f2 := zO.c2
         have f3 := zO.f 0
         have f4 := zO.f 1
         have f5 := zO.f 2
         go_simp
         have gS := tb_set wC (wQ.heap.size) (.slice none 0 0) (.bool sC) (.slice aC lC cC)
         have hC := hC.grownU gS (tb_noU zO)
         have zO := tb_fin zO none 0 0 sC aC lC cC
         have kW := ((kW.setCell (p := ⟨wQ.heap.size, 0, none⟩) hbzO (.slice none 0 0)).setCell (p := ⟨wQ.heap.size, 1, none⟩) hbzO (.bool sC)).setCell (p := ⟨wQ.heap.size, 2, none⟩) hbzO (.slice aC lC cC)
         refine hK.out _ _ ?_ ?_
         ·(try dsimp only); exact lq7 xN zo zg kW
         clear hK K hHeld; intro hHeld
         (try simp only [Act.put, List.setIfInBounds_toArray, List.set_cons_zero, List.set_cons_succ])
         refine wpAnyH_done (by kernel_rfl) ?_ _
         exact ⟨rfl, _, sA, aA, lA, cA, sB, aB, lB, cB, sC, aC, lC, cC, rfl, zO, hC, by omega, hbzO, kW⟩
        exact AllReadyH.nil
       exact AllReadyH.nil
      exact AllReadyH.nil
     exact AllReadyH.nil
    exact AllReadyH.nil
   exact AllReadyH.nil
  rintro e a' wo ⟨rfl, o, sA, aA, lA, cA, sB, aB, lB, cB, sC, aC, lC, cC, rfl, yo, hzC, hlC, hoW, k7⟩
  have hr7 : r < w7.heap.size := (Array.getElem?_eq_some_iff.1 y1).1
  have x1 := xN.below k7
  have z1 := zg.below k7
  have hxl := xN.lt
  have hgl := zg.lt
  replace y1 := (k7.block r hr7).trans y1
  have hd := hzg.zm.below k7
  have hbo : Hid (Below w.heap.size w wo) := grow_step k7 kk.out
  have hP7 := hide hP2
  have hk7 := hide k7
  clear hz2 hzg hz6 zo kk xN zg k7 hP2
  go_wp2_with fail
  go_loopw [8] (fun i wr => ∃ (t : Nat) (ad' : Option Addr) (cap' : Nat) (L' : List Raw), t ≤ n1 ∧ i = .int .i64 t ∧ TB wr o ad' t cap' sC aC lC cC ∧ Hid (RS wo.heap.size wr (.slice ad' t cap') t cap' L') ∧ Hid (Rok wr (B + n + 4) L') ∧ Hid ((L'.take t).map Raw.p = mapP (fun x => x / ((gcdL 0 qs : Nat) : Int)) (qs.take t)) ∧ Hid (wo.grownBy wr (some o))) (fun i _ => n1 - (intOf i).toNat)
  case atStart => exact ⟨0, none, 0, [], Nat.zero_le _, rfl, yo, .inl ⟨rfl, rfl, rfl, rfl⟩, (fun x hx => absurd hx (by simp)), (show _ = _ from rfl), ⟨rfl, rfl, rfl, Nat.le_refl _, fun _ _ _ => rfl⟩⟩
  case round =>
   obtain ⟨t, ad', cap', L', ht, rfl, yr, hR, hok, hlays, hg⟩ := hrel
   have xr := x1.grown hg.out (by omega)
   have u0 := xr.c0
   have e0 := yr.c0
   have f0 := yr.f 0
   have hol := yo.lt
   by_cases htn : t < n1
   ·obtain ⟨hpn, hPr⟩ := hP7.out.pr
    rcases hPr with hPr | ⟨bp, f, rfl, hPr⟩
    ·omega
    have hbp := hPr.1
    obtain ⟨s3, a3, l3, c3, g0, g1, g2, hz3, hl3, hv⟩ := (hPr.below hk7.out).2 t (by omega)
    have hbpo : bp ≠ o := by omega
    have hbpl : bp < wo.heap.size := (hPr.below hk7.out).1
    have hpo : bn ≠ o := by omega
    have hqo : bg ≠ o := by omega
    have hps : Hid (qs.take (t + 1) = qs.take t ++ [qs[t]]) := List.take_succ_eq_append_getElem (l := qs) (i := t) (by omega)
    generalize qs[t] = pp at *
    obtain ⟨pv, pz⟩ := pp
    dsimp only at *
    obtain ⟨w0, hw0, hbr, hnext⟩ := own_base yo hg.out yr
    replace hz3 := hz3.grownU hg.out (tb_noU yo)
    have hd3 := hd.grownU hg.out (tb_noU yo)
    have hRq : RS w0.heap.size wr (.slice ad' t cap') t cap' L' := hw0 ▸ hR.out
    have hokq := hok.out
    clear hPr
    have HH := hide (And.intro hbr (And.intro hz3 (And.intro hd3 (And.intro hRq (And.intro hokq (And.intro hnext hw0))))))
    clear hbr hz3 hd3 hRq hokq hnext hw0
    go_wp2_with fail
    obtain ⟨hbr, hz3, hd3, hRq, hokq, hnext, hw0⟩ := HH.out
    clear HH
    refine wp_region_held_drew (S := (fun w' => w'.cell? ⟨bn, 0, none⟩ = some (.slice (some ⟨bp, f, none⟩) n1 cp1) ∧ w'.cell? ⟨bp, f + t * 3, none⟩ = some (.int .i64 pv) ∧ w'.cell? ⟨bp, f + t * 3 + 1, none⟩ = some (.bool s3) ∧ w'.cell? ⟨bp, f + t * 3 + 2, none⟩ = some (.slice a3 l3 c3) ∧ w'.cell? ⟨bg, 0, none⟩ = some (.bool sg) ∧ w'.cell? ⟨bg, 1, none⟩ = some (.slice ag lg cg) ∧ wo.grownBy w' (some o))) (by kernel_rfl) (nk2 x1 hpo g0 g1 g2 hbpl hbpo z1 hqo (gb_below hg.out (grow_drew (Below.refl wr.heap.size wr)))) (fun hHeld => ?_)
    show wpAnyH _ _ _ _ _ 21 _ _ _
    have kW := grow_drew (Below.refl wr.heap.size wr)
    have yr := yr.below kW
    have hRq := hRq.below kW
    have hokq := hokq.below kW
    generalize wr.drew = wQ at *
    refine wpAnyH_take (i := 0) (oi := ⟨some 41, _, _, _, _, _⟩) (v := ?_) rfl (by kernel_rfl) (by kernel_rfl) (by kernel_rfl) (fun _ _ _ h => h) (Or.inl ⟨by rfl, ?_⟩) (by assumption) ?_
    rotate_left
    ·intro wq hSw; (try dsimp only at hSw); go_simp; (try with_reducible rfl)
    (try simp only [Act.put, List.setIfInBounds_toArray, List.set_cons_zero, List.set_cons_succ])
    refine wpAnyH_take (i := 2) (oi := ⟨some 43, _, _, _, _, _⟩) (v := ?_) rfl (by kernel_rfl) (by kernel_rfl) (by kernel_rfl) (fun _ _ _ h => h) (Or.inl ⟨by rfl, ?_⟩) (by assumption) ?_
    rotate_left
    ·intro wq hSw; (try dsimp only at hSw); go_simp; (try with_reducible rfl)
    (try simp only [Act.put, List.setIfInBounds_toArray, List.set_cons_zero, List.set_cons_succ])
    refine wpAnyH_take (i := 3) (oi := ⟨some 44, _, _, _, _, _⟩) (v := ?_) rfl (by kernel_rfl) (by kernel_rfl) (by kernel_rfl) (fun _ _ _ h => h) (Or.inl ⟨by rfl, ?_⟩) (by assumption) ?_
    rotate_left
    ·intro wq hSw; (try dsimp only at hSw); go_simp; (try with_reducible rfl)
    (try simp only [Act.put, List.setIfInBounds_toArray, List.set_cons_zero, List.set_cons_succ])
    refine wpAnyH_take (i := 4) (oi := ⟨some 45, _, _, _, _, _⟩) (v := ?_) rfl (by kernel_rfl) (by kernel_rfl) (by kernel_rfl) (fun _ _ _ h => h) (Or.inl ⟨by rfl, ?_⟩) (by assumption) ?_
    rotate_left
    ·intro wq hSw; (try dsimp only at hSw); go_simp; (try with_reducible rfl)
    (try simp only [Act.put, List.setIfInBounds_toArray, List.set_cons_zero, List.set_cons_succ])
    refine wpAnyH_take (i := 5) (oi := ⟨some 46, _, _, _, _, _⟩) (v := ?_) rfl (by kernel_rfl) (by kernel_rfl) (by kernel_rfl) (fun _ _ _ h => h) (Or.inl ⟨by rfl, ?_⟩) (by assumption) ?_
    rotate_left
    ·intro wq hSw; (try dsimp only at hSw); go_simp; (try with_reducible rfl)
    (try simp only [Act.put, List.setIfInBounds_toArray, List.set_cons_zero, List.set_cons_succ])
    refine wpAnyH_take (i := 6) (oi := ⟨some 47, _, _, _, _, _⟩) (v := ?_) rfl (by kernel_rfl) (by kernel_rfl) (by kernel_rfl) (fun _ _ _ h => h) (Or.inl ⟨by rfl, ?_⟩) (by assumption) ?_
    rotate_left
    ·intro wq hSw; (try dsimp only at hSw); go_simp; (try with_reducible rfl)
    (try simp only [Act.put, List.setIfInBounds_toArray, List.set_cons_zero, List.set_cons_succ])
    refine wpAnyH_take (i := 7) (oi := ⟨some 48, _, _, _, _, _⟩) (v := ?_) rfl (by kernel_rfl) (by kernel_rfl) (by kernel_rfl) (fun _ _ _ h => h) (Or.inl ⟨by rfl, ?_⟩) (by assumption) ?_
    rotate_left
    ·intro wq hSw; (try dsimp only at hSw); go_simp; (try with_reducible rfl)
    (try simp only [Act.put, List.setIfInBounds_toArray, List.set_cons_zero, List.set_cons_succ])
    refine wpAnyH_take (i := 8) (oi := ⟨some 49, _, _, _, _, _⟩) (v := ?_) rfl (by kernel_rfl) (by kernel_rfl) (by kernel_rfl) (fun _ _ _ h => h) (Or.inl ⟨by rfl, ?_⟩) (by assumption) ?_
    rotate_left
    ·intro wq hSw; (try dsimp only at hSw); go_simp; (try with_reducible rfl)
    (try simp only [Act.put, List.setIfInBounds_toArray, List.set_cons_zero, List.set_cons_succ])
    refine wpAnyH_take (i := 9) (oi := ⟨some 50, _, _, _, _, _⟩) (v := ?_) rfl (by kernel_rfl) (by kernel_rfl) (by kernel_rfl) (fun _ _ _ h => h) (Or.inl ⟨by rfl, ?_⟩) (by assumption) ?_
    rotate_left
    ·intro wq hSw; (try dsimp only at hSw); go_simp; (try with_reducible rfl)
    (try simp only [Act.put, List.setIfInBounds_toArray, List.set_cons_zero, List.set_cons_succ])
    refine wpAnyH_take (i := 10) (oi := ⟨some 51, _, _, _, _, _⟩) (v := ?_) rfl (by kernel_rfl) (by kernel_rfl) (by kernel_rfl) (fun _ _ _ h => h) (Or.inl ⟨by rfl, ?_⟩) (by assumption) ?_
    rotate_left
    ·intro wq hSw; (try dsimp only at hSw); go_simp; (try with_reducible rfl)
    (try simp only [Act.put, List.setIfInBounds_toArray, List.set_cons_zero, List.set_cons_succ])
    refine wpAnyH_take (i := 11) (oi := ⟨some 52, _, _, _, _, _⟩) (v := ?_) rfl (by kernel_rfl) (by kernel_rfl) (by kernel_rfl) (fun _ _ _ h => h) (Or.inl ⟨by rfl, ?_⟩) (by assumption) ?_
    rotate_left
    ·intro wq hSw; (try dsimp only at hSw); go_simp; (try with_reducible rfl)
    (try simp only [Act.put, List.setIfInBounds_toArray, List.set_cons_zero, List.set_cons_succ])
    refine wpAnyH_take (i := 12) (oi := ⟨some 53, _, _, _, _, _⟩) (v := ?_) rfl (by kernel_rfl) (by kernel_rfl) (by kernel_rfl) (fun _ _ _ h => h) (Or.inl ⟨by rfl, ?_⟩) (by assumption) ?_
    rotate_left
    ·intro wq hSw; (try dsimp only at hSw); go_simp; (try with_reducible rfl)
    (try simp only [Act.put, List.setIfInBounds_toArray, List.set_cons_zero, List.set_cons_succ])
    refine wpAnyH_take (i := 13) (oi := ⟨some 54, _, _, _, _, _⟩) (v := ?_) rfl (by kernel_rfl) (by kernel_rfl) (by kernel_rfl) (fun _ _ _ h => h) (Or.inl ⟨by rfl, ?_⟩) (by assumption) ?_
    rotate_left
    ·intro wq hSw; (try dsimp only at hSw); go_simp; (try with_reducible rfl)
    (try simp only [Act.put, List.setIfInBounds_toArray, List.set_cons_zero, List.set_cons_succ])
    refine wpAnyH_take (i := 14) (oi := ⟨some 55, _, _, _, _, _⟩) (v := ?_) rfl (by kernel_rfl) (by kernel_rfl) (by kernel_rfl) (fun _ _ _ h => h) (Or.inl ⟨by rfl, ?_⟩) (by assumption) ?_
    rotate_left
    ·intro wq hSw; (try dsimp only at hSw); go_simp; (try with_reducible rfl)
    (try simp only [Act.put, List.setIfInBounds_toArray, List.set_cons_zero, List.set_cons_succ])
    refine wpAnyH_ready (rs := [1, 15]) (by kernel_rfl) (by simp) ?_
    refine AllReadyH.cons (o := ⟨some 42, _, _, _, _, _⟩) rfl (fun K hK => ?_) ?_
    ·have f0 := yr.c0
     go_simp
     refine hK.out _ _ ?_ ?_
     ·(try dsimp only); exact nk2 x1 hpo g0 g1 g2 hbpl hbpo z1 hqo (gb_below hg.out kW)
     clear hK K hHeld; intro hHeld
     (try simp only [Act.put, List.setIfInBounds_toArray, List.set_cons_zero, List.set_cons_succ])
     refine wpAnyH_ready (rs := [15]) (by kernel_rfl) (by simp) ?_
     refine AllReadyH.cons (o := ⟨some 56, _, _, _, _, _⟩) rfl (fun K hK => ?_) ?_
     ·go_simp
      go_at_call 57; refine Calls.mono (rfloor6_n (hz3.below kW) (hd3.below kW) (by omega) (by omega) hpos9) ?_; rintro e wA ⟨sN, aN, lN, cN, rfl, hN, kA, hlN⟩
      have yr := yr.below kA
      have hRq := hRq.below kA
      have hokq := hokq.below kA
      have kW := grow_step kA kW
      (try go_wp2_with fail)
      refine hK.out _ _ ?_ ?_
      ·(try dsimp only); exact nk2 x1 hpo g0 g1 g2 hbpl hbpo z1 hqo (gb_below hg.out kW)
      clear hK K hHeld; intro hHeld
      (try simp only [Act.put, List.setIfInBounds_toArray, List.set_cons_zero, List.set_cons_succ])
      refine wpAnyH_ready (rs := [16]) (by kernel_rfl) (by simp) ?_
      refine AllReadyH.cons (o := ⟨some 57, _, _, _, _, _⟩) rfl (fun K hK => ?_) ?_
      ·go_simp
       refine hK.out _ _ ?_ ?_
       ·(try dsimp only); exact nk2 x1 hpo g0 g1 g2 hbpl hbpo z1 hqo (gb_below hg.out kW)
       clear hK K hHeld; intro hHeld
       (try simp only [Act.put, List.setIfInBounds_toArray, List.set_cons_zero, List.set_cons_succ])
       refine wpAnyH_ready (rs := [17]) (by kernel_rfl) (by simp) ?_
       refine AllReadyH.cons (o := ⟨some 58, _, _, _, _, _⟩) rfl (fun K hK => ?_) ?_
       ·have kL := below_alloc (wA) (.cells #[.int .i64 pv, .bool sN, .slice aN lN cN] 71)
        have yr := yr.below kL
        have hRq := hRq.below kL
        have hokq := hokq.below kL
        have hN := hN.below kL
        have hv3 := v3_new wA pv sN aN lN cN
        have kW := grow_step kL kW
        go_simp
        refine hK.out _ _ ?_ ?_
        ·(try dsimp only); exact nk2 x1 hpo g0 g1 g2 hbpl hbpo z1 hqo (gb_below hg.out kW)
        clear hK K hHeld; intro hHeld
        (try simp only [Act.put, List.setIfInBounds_toArray, List.set_cons_zero, List.set_cons_succ])
        generalize (wA).alloc (.cells #[.int .i64 pv, .bool sN, .slice aN lN cN] 71) = wL at *
        refine wpAnyH_ready (rs := [18]) (by kernel_rfl) (by simp) ?_
        refine AllReadyH.cons (o := ⟨some 59, _, _, _, _, _⟩) rfl (fun K hK => ?_) ?_
        ·skip
         refine anyH_append rfl _ _ 25 rfl _ _ rfl rfl _ (run_append_rs (w0 := w0) hRq (grow_step kW hbr) ⟨pv, sN, aN, lN, cN, pz / ((gcdL 0 qs : Nat) : Int)⟩ ⟨wA.heap.size, 0, none⟩ hv3 (by omega) _) ?_
         rintro v5 w8 ⟨cap5, L5, hR5, htk, hmem, hb5, hg5, -⟩
         obtain ⟨ad5, rfl⟩ := hR5.row
         obtain ⟨hgS, y8⟩ := hnext w8 hb5
         refine hK.out _ _ ?_ ?_
         ·(try dsimp only); exact nk2 x1 hpo g0 g1 g2 hbpl hbpo z1 hqo hgS
         clear hK K hHeld; intro hHeld
         (try simp only [Act.put, List.setIfInBounds_toArray, List.set_cons_zero, List.set_cons_succ])
         refine wpAnyH_ready (rs := [19]) (by kernel_rfl) (by simp) ?_
         refine AllReadyH.cons (o := ⟨some 60, _, _, _, _, _⟩) rfl (fun K hK => ?_) ?_
         ·go_simp
          refine hK.out _ _ ?_ ?_
          ·(try dsimp only); exact nk2 x1 hpo g0 g1 g2 hbpl hbpo z1 hqo hgS
          clear hK K hHeld; intro hHeld
          (try simp only [Act.put, List.setIfInBounds_toArray, List.set_cons_zero, List.set_cons_succ])
          refine wpAnyH_ready (rs := [20]) (by kernel_rfl) (by simp) ?_
          refine AllReadyH.cons (o := ⟨none, _, _, _, _, _⟩) rfl (fun K hK => ?_) ?_
          ·have f0 := y8.c0
           have f1 := y8.f 0
           go_simp
           have hgS := gb_trans hgS (gb_set w8 o 0 (.slice ad5 (t + 1) cap5))
           refine hK.out _ _ ?_ ?_
           ·(try dsimp only); exact nk2 x1 hpo g0 g1 g2 hbpl hbpo z1 hqo hgS
           clear hK K hHeld; intro hHeld
           (try simp only [Act.put, List.setIfInBounds_toArray, List.set_cons_zero, List.set_cons_succ])
           refine wpAnyH_done (by kernel_rfl) ?_ _
           have y3 := tb_set0 y8 ad5 (t + 1) cap5
           have hR3 := hide (RS.grown (o := o) (hw0 ▸ hR5 : RS wo.heap.size w8 (.slice ad5 (t + 1) cap5) (t + 1) cap5 L5) (gb_set w8 o 0 (.slice ad5 (t + 1) cap5)) hol)
           have ok5 : Rok w8 (B + n + 4) L5 := fun y hy => by
            rcases hmem y hy with h | rfl | rfl
            ·exact ⟨hRq.zn hg5 (hokq y h).1, (hokq y h).2⟩
            ·exact ⟨hRq.zn hg5 hN, by show lN ≤ _; omega, hv⟩
            ·exact zr_ok _ _
           have hok3 : Hid (Rok (w8.setCell ⟨o, 0, none⟩ (.slice ad5 (t + 1) cap5)) (B + n + 4) L5) := ok5.grownU (gb_set w8 o 0 (.slice ad5 (t + 1) cap5)) (tb_noU y8)
           have hlays3 : Hid ((L5.take (t + 1)).map Raw.p = mapP (fun x => x / ((gcdL 0 qs : Nat) : Int)) (qs.take (t + 1))) := (show _ = _ by rw [htk, List.map_append, hps.out, mapP_snoc, hlays.out]; rfl)
           replace hgS := hide hgS
           clear hHeld hR5 ok5 hmem htk hb5 hg5 y8 hRq hokq hN yr hv3 kW kA hbr hnext
           go_wp2_with fail
           exact ⟨⟨t + 1, ad5, cap5, L5, by omega, by go_num, y3, hR3, hok3, hlays3, hgS⟩, by simp [intOf]; omega⟩
          exact AllReadyH.nil
         exact AllReadyH.nil
        exact AllReadyH.nil
       exact AllReadyH.nil
      exact AllReadyH.nil
     exact AllReadyH.nil
    refine AllReadyH.cons (o := ⟨some 56, _, _, _, _, _⟩) rfl (fun K hK => ?_) ?_
    ·go_simp
     go_at_call 57; refine Calls.mono (rfloor6_n (hz3.below kW) (hd3.below kW) (by omega) (by omega) hpos9) ?_; rintro e wA ⟨sN, aN, lN, cN, rfl, hN, kA, hlN⟩
     have yr := yr.below kA
     have hRq := hRq.below kA
     have hokq := hokq.below kA
     have kW := grow_step kA kW
     (try go_wp2_with fail)
     refine hK.out _ _ ?_ ?_
     ·(try dsimp only); exact nk2 x1 hpo g0 g1 g2 hbpl hbpo z1 hqo (gb_below hg.out kW)
     clear hK K hHeld; intro hHeld
     (try simp only [Act.put, List.setIfInBounds_toArray, List.set_cons_zero, List.set_cons_succ])
     refine wpAnyH_ready (rs := [1, 16]) (by kernel_rfl) (by simp) ?_
     refine AllReadyH.cons (o := ⟨some 42, _, _, _, _, _⟩) rfl (fun K hK => ?_) ?_
     ·have f0 := yr.c0
      go_simp
      refine hK.out _ _ ?_ ?_
      ·(try dsimp only); exact nk2 x1 hpo g0 g1 g2 hbpl hbpo z1 hqo (gb_below hg.out kW)
      clear hK K hHeld; intro hHeld
      (try simp only [Act.put, List.setIfInBounds_toArray, List.set_cons_zero, List.set_cons_succ])
      refine wpAnyH_ready (rs := [16]) (by kernel_rfl) (by simp) ?_
      refine AllReadyH.cons (o := ⟨some 57, _, _, _, _, _⟩) rfl (fun K hK => ?_) ?_
      ·go_simp
       refine hK.out _ _ ?_ ?_
       ·(try dsimp only); exact nk2 x1 hpo g0 g1 g2 hbpl hbpo z1 hqo (gb_below hg.out kW)
       clear hK K hHeld; intro hHeld
       (try simp only [Act.put, List.setIfInBounds_toArray, List.set_cons_zero, List.set_cons_succ])
       refine wpAnyH_ready (rs := [17]) (by kernel_rfl) (by simp) ?_
       refine AllReadyH.cons (o := ⟨some 58, _, _, _, _, _⟩) rfl (fun K hK => ?_) ?_
       ·have kL := below_alloc (wA) (.cells #[.int .i64 pv, .bool sN, .slice aN lN cN] 71)
        have yr := yr.below kL
        have hRq := hRq.below kL
        have hokq := hokq.below kL
        have hN := hN.below kL
        have hv3 := v3_new wA pv sN aN lN cN
        have kW := grow_step kL kW
        go_simp
        refine hK.out _ _ ?_ ?_
        ·(try dsimp only); exact nk2 x1 hpo g0 g1 g2 hbpl hbpo z1 hqo (gb_below hg.out kW)
        clear hK K hHeld; intro hHeld
        (try simp only [Act.put, List.setIfInBounds_toArray, List.set_cons_zero, List.set_cons_succ])
        generalize (wA).alloc (.cells #[.int .i64 pv, .bool sN, .slice aN lN cN] 71) = wL at *
        refine wpAnyH_ready (rs := [18]) (by kernel_rfl) (by simp) ?_
        refine AllReadyH.cons (o := ⟨some 59, _, _, _, _, _⟩) rfl (fun K hK => ?_) ?_
        ·skip
         refine anyH_append rfl _ _ 25 rfl _ _ rfl rfl _ (run_append_rs (w0 := w0) hRq (grow_step kW hbr) ⟨pv, sN, aN, lN, cN, pz / ((gcdL 0 qs : Nat) : Int)⟩ ⟨wA.heap.size, 0, none⟩ hv3 (by omega) _) ?_
         rintro v5 w8 ⟨cap5, L5, hR5, htk, hmem, hb5, hg5, -⟩
         obtain ⟨ad5, rfl⟩ := hR5.row
         obtain ⟨hgS, y8⟩ := hnext w8 hb5
         refine hK.out _ _ ?_ ?_
         ·(try dsimp only); exact nk2 x1 hpo g0 g1 g2 hbpl hbpo z1 hqo hgS
         clear hK K hHeld; intro hHeld
         (try simp only [Act.put, List.setIfInBounds_toArray, List.set_cons_zero, List.set_cons_succ])
         refine wpAnyH_ready (rs := [19]) (by kernel_rfl) (by simp) ?_
         refine AllReadyH.cons (o := ⟨some 60, _, _, _, _, _⟩) rfl (fun K hK => ?_) ?_
         ·go_simp
          refine hK.out _ _ ?_ ?_
          ·(try dsimp only); exact nk2 x1 hpo g0 g1 g2 hbpl hbpo z1 hqo hgS
          clear hK K hHeld; intro hHeld
          (try simp only [Act.put, List.setIfInBounds_toArray, List.set_cons_zero, List.set_cons_succ])
          refine wpAnyH_ready (rs := [20]) (by kernel_rfl) (by simp) ?_
          refine AllReadyH.cons (o := ⟨none, _, _, _, _, _⟩) rfl (fun K hK => ?_) ?_
          ·have f0 := y8.c0
           have f1 := y8.f 0
           go_simp
           have hgS := gb_trans hgS (gb_set w8 o 0 (.slice ad5 (t + 1) cap5))
           refine hK.out _ _ ?_ ?_
           ·(try dsimp only); exact nk2 x1 hpo g0 g1 g2 hbpl hbpo z1 hqo hgS
           clear hK K hHeld; intro hHeld
           (try simp only [Act.put, List.setIfInBounds_toArray, List.set_cons_zero, List.set_cons_succ])
           refine wpAnyH_done (by kernel_rfl) ?_ _
           have y3 := tb_set0 y8 ad5 (t + 1) cap5
           have hR3 := hide (RS.grown (o := o) (hw0 ▸ hR5 : RS wo.heap.size w8 (.slice ad5 (t + 1) cap5) (t + 1) cap5 L5) (gb_set w8 o 0 (.slice ad5 (t + 1) cap5)) hol)
           have ok5 : Rok w8 (B + n + 4) L5 := fun y hy => by
            rcases hmem y hy with h | rfl | rfl
            ·exact ⟨hRq.zn hg5 (hokq y h).1, (hokq y h).2⟩
            ·exact ⟨hRq.zn hg5 hN, by show lN ≤ _; omega, hv⟩
            ·exact zr_ok _ _
           have hok3 : Hid (Rok (w8.setCell ⟨o, 0, none⟩ (.slice ad5 (t + 1) cap5)) (B + n + 4) L5) := ok5.grownU (gb_set w8 o 0 (.slice ad5 (t + 1) cap5)) (tb_noU y8)
           have hlays3 : Hid ((L5.take (t + 1)).map Raw.p = mapP (fun x => x / ((gcdL 0 qs : Nat) : Int)) (qs.take (t + 1))) := (show _ = _ by rw [htk, List.map_append, hps.out, mapP_snoc, hlays.out]; rfl)
           replace hgS := hide hgS
           clear hHeld hR5 ok5 hmem htk hb5 hg5 y8 hRq hokq hN yr hv3 kW kA hbr hnext
           go_wp2_with fail
           exact ⟨⟨t + 1, ad5, cap5, L5, by omega, by go_num, y3, hR3, hok3, hlays3, hgS⟩, by simp [intOf]; omega⟩
          exact AllReadyH.nil
         exact AllReadyH.nil
        exact AllReadyH.nil
       exact AllReadyH.nil
      exact AllReadyH.nil
     refine AllReadyH.cons (o := ⟨some 57, _, _, _, _, _⟩) rfl (fun K hK => ?_) ?_
     ·go_simp
      refine hK.out _ _ ?_ ?_
      ·(try dsimp only); exact nk2 x1 hpo g0 g1 g2 hbpl hbpo z1 hqo (gb_below hg.out kW)
      clear hK K hHeld; intro hHeld
      (try simp only [Act.put, List.setIfInBounds_toArray, List.set_cons_zero, List.set_cons_succ])
      refine wpAnyH_ready (rs := [1, 17]) (by kernel_rfl) (by simp) ?_
      refine AllReadyH.cons (o := ⟨some 42, _, _, _, _, _⟩) rfl (fun K hK => ?_) ?_
      ·have f0 := yr.c0
       go_simp
       refine hK.out _ _ ?_ ?_
       ·(try dsimp only); exact nk2 x1 hpo g0 g1 g2 hbpl hbpo z1 hqo (gb_below hg.out kW)
       clear hK K hHeld; intro hHeld
       (try simp only [Act.put, List.setIfInBounds_toArray, List.set_cons_zero, List.set_cons_succ])
       refine wpAnyH_ready (rs := [17]) (by kernel_rfl) (by simp) ?_
       refine AllReadyH.cons (o := ⟨some 58, _, _, _, _, _⟩) rfl (fun K hK => ?_) ?_
       ·have kL := below_alloc (wA) (.cells #[.int .i64 pv, .bool sN, .slice aN lN cN] 71)
        have yr := yr.below kL
        have hRq := hRq.below kL
        have hokq := hokq.below kL
        have hN := hN.below kL
        have hv3 := v3_new wA pv sN aN lN cN
        have kW := grow_step kL kW
        go_simp
        refine hK.out _ _ ?_ ?_
        ·(try dsimp only); exact nk2 x1 hpo g0 g1 g2 hbpl hbpo z1 hqo (gb_below hg.out kW)
        clear hK K hHeld; intro hHeld
        (try simp only [Act.put, List.setIfInBounds_toArray, List.set_cons_zero, List.set_cons_succ])
        generalize (wA).alloc (.cells #[.int .i64 pv, .bool sN, .slice aN lN cN] 71) = wL at *
        refine wpAnyH_ready (rs := [18]) (by kernel_rfl) (by simp) ?_
        refine AllReadyH.cons (o := ⟨some 59, _, _, _, _, _⟩) rfl (fun K hK => ?_) ?_
        ·skip
         refine anyH_append rfl _ _ 25 rfl _ _ rfl rfl _ (run_append_rs (w0 := w0) hRq (grow_step kW hbr) ⟨pv, sN, aN, lN, cN, pz / ((gcdL 0 qs : Nat) : Int)⟩ ⟨wA.heap.size, 0, none⟩ hv3 (by omega) _) ?_
         rintro v5 w8 ⟨cap5, L5, hR5, htk, hmem, hb5, hg5, -⟩
         obtain ⟨ad5, rfl⟩ := hR5.row
         obtain ⟨hgS, y8⟩ := hnext w8 hb5
         refine hK.out _ _ ?_ ?_
         ·(try dsimp only); exact nk2 x1 hpo g0 g1 g2 hbpl hbpo z1 hqo hgS
         clear hK K hHeld; intro hHeld
         (try simp only [Act.put, List.setIfInBounds_toArray, List.set_cons_zero, List.set_cons_succ])
         refine wpAnyH_ready (rs := [19]) (by kernel_rfl) (by simp) ?_
         refine AllReadyH.cons (o := ⟨some 60, _, _, _, _, _⟩) rfl (fun K hK => ?_) ?_
         ·go_simp
          refine hK.out _ _ ?_ ?_
          ·(try dsimp only); exact nk2 x1 hpo g0 g1 g2 hbpl hbpo z1 hqo hgS
          clear hK K hHeld; intro hHeld
          (try simp only [Act.put, List.setIfInBounds_toArray, List.set_cons_zero, List.set_cons_succ])
          refine wpAnyH_ready (rs := [20]) (by kernel_rfl) (by simp) ?_
          refine AllReadyH.cons (o := ⟨none, _, _, _, _, _⟩) rfl (fun K hK => ?_) ?_
          ·have f0 := y8.c0
           have f1 := y8.f 0
           go_simp
           have hgS := gb_trans hgS (gb_set w8 o 0 (.slice ad5 (t + 1) cap5))
           refine hK.out _ _ ?_ ?_
           ·(try dsimp only); exact nk2 x1 hpo g0 g1 g2 hbpl hbpo z1 hqo hgS
           clear hK K hHeld; intro hHeld
           (try simp only [Act.put, List.setIfInBounds_toArray, List.set_cons_zero, List.set_cons_succ])
           refine wpAnyH_done (by kernel_rfl) ?_ _
           have y3 := tb_set0 y8 ad5 (t + 1) cap5
           have hR3 := hide (RS.grown (o := o) (hw0 ▸ hR5 : RS wo.heap.size w8 (.slice ad5 (t + 1) cap5) (t + 1) cap5 L5) (gb_set w8 o 0 (.slice ad5 (t + 1) cap5)) hol)
           have ok5 : Rok w8 (B + n + 4) L5 := fun y hy => by
            rcases hmem y hy with h | rfl | rfl
            ·exact ⟨hRq.zn hg5 (hokq y h).1, (hokq y h).2⟩
            ·exact ⟨hRq.zn hg5 hN, by show lN ≤ _; omega, hv⟩
            ·exact zr_ok _ _
           have hok3 : Hid (Rok (w8.setCell ⟨o, 0, none⟩ (.slice ad5 (t + 1) cap5)) (B + n + 4) L5) := ok5.grownU (gb_set w8 o 0 (.slice ad5 (t + 1) cap5)) (tb_noU y8)
           have hlays3 : Hid ((L5.take (t + 1)).map Raw.p = mapP (fun x => x / ((gcdL 0 qs : Nat) : Int)) (qs.take (t + 1))) := (show _ = _ by rw [htk, List.map_append, hps.out, mapP_snoc, hlays.out]; rfl)
           replace hgS := hide hgS
           clear hHeld hR5 ok5 hmem htk hb5 hg5 y8 hRq hokq hN yr hv3 kW kA hbr hnext
           go_wp2_with fail
           exact ⟨⟨t + 1, ad5, cap5, L5, by omega, by go_num, y3, hR3, hok3, hlays3, hgS⟩, by simp [intOf]; omega⟩
          exact AllReadyH.nil
         exact AllReadyH.nil
        exact AllReadyH.nil
       exact AllReadyH.nil
      refine AllReadyH.cons (o := ⟨some 58, _, _, _, _, _⟩) rfl (fun K hK => ?_) ?_
      ·have kL := below_alloc (wA) (.cells #[.int .i64 pv, .bool sN, .slice aN lN cN] 71)
       have yr := yr.below kL
       have hRq := hRq.below kL
       have hokq := hokq.below kL
       have hN := hN.below kL
       have hv3 := v3_new wA pv sN aN lN cN
       have kW := grow_step kL kW
       go_simp
       refine hK.out _ _ ?_ ?_
       ·(try dsimp only); exact nk2 x1 hpo g0 g1 g2 hbpl hbpo z1 hqo (gb_below hg.out kW)
       clear hK K hHeld; intro hHeld
       (try simp only [Act.put, List.setIfInBounds_toArray, List.set_cons_zero, List.set_cons_succ])
       generalize (wA).alloc (.cells #[.int .i64 pv, .bool sN, .slice aN lN cN] 71) = wL at *
       refine wpAnyH_ready (rs := [1]) (by kernel_rfl) (by simp) ?_
       refine AllReadyH.cons (o := ⟨some 42, _, _, _, _, _⟩) rfl (fun K hK => ?_) ?_
       ·have f0 := yr.c0
        go_simp
        refine hK.out _ _ ?_ ?_
        ·(try dsimp only); exact nk2 x1 hpo g0 g1 g2 hbpl hbpo z1 hqo (gb_below hg.out kW)
        clear hK K hHeld; intro hHeld
        (try simp only [Act.put, List.setIfInBounds_toArray, List.set_cons_zero, List.set_cons_succ])
        refine wpAnyH_ready (rs := [18]) (by kernel_rfl) (by simp) ?_
        refine AllReadyH.cons (o := ⟨some 59, _, _, _, _, _⟩) rfl (fun K hK => ?_) ?_
        ·skip
         refine anyH_append rfl _ _ 25 rfl _ _ rfl rfl _ (run_append_rs (w0 := w0) hRq (grow_step kW hbr) ⟨pv, sN, aN, lN, cN, pz / ((gcdL 0 qs : Nat) : Int)⟩ ⟨wA.heap.size, 0, none⟩ hv3 (by omega) _) ?_
         rintro v5 w8 ⟨cap5, L5, hR5, htk, hmem, hb5, hg5, -⟩
         obtain ⟨ad5, rfl⟩ := hR5.row
         obtain ⟨hgS, y8⟩ := hnext w8 hb5
         refine hK.out _ _ ?_ ?_
         ·(try dsimp only); exact nk2 x1 hpo g0 g1 g2 hbpl hbpo z1 hqo hgS
         clear hK K hHeld; intro hHeld
         (try simp only [Act.put, List.setIfInBounds_toArray, List.set_cons_zero, List.set_cons_succ])
         refine wpAnyH_ready (rs := [19]) (by kernel_rfl) (by simp) ?_
         refine AllReadyH.cons (o := ⟨some 60, _, _, _, _, _⟩) rfl (fun K hK => ?_) ?_
         ·go_simp
          refine hK.out _ _ ?_ ?_
          ·(try dsimp only); exact nk2 x1 hpo g0 g1 g2 hbpl hbpo z1 hqo hgS
          clear hK K hHeld; intro hHeld
          (try simp only [Act.put, List.setIfInBounds_toArray, List.set_cons_zero, List.set_cons_succ])
          refine wpAnyH_ready (rs := [20]) (by kernel_rfl) (by simp) ?_
          refine AllReadyH.cons (o := ⟨none, _, _, _, _, _⟩) rfl (fun K hK => ?_) ?_
          ·have f0 := y8.c0
           have f1 := y8.f 0
           go_simp
           have hgS := gb_trans hgS (gb_set w8 o 0 (.slice ad5 (t + 1) cap5))
           refine hK.out _ _ ?_ ?_
           ·(try dsimp only); exact nk2 x1 hpo g0 g1 g2 hbpl hbpo z1 hqo hgS
           clear hK K hHeld; intro hHeld
           (try simp only [Act.put, List.setIfInBounds_toArray, List.set_cons_zero, List.set_cons_succ])
           refine wpAnyH_done (by kernel_rfl) ?_ _
           have y3 := tb_set0 y8 ad5 (t + 1) cap5
           have hR3 := hide (RS.grown (o := o) (hw0 ▸ hR5 : RS wo.heap.size w8 (.slice ad5 (t + 1) cap5) (t + 1) cap5 L5) (gb_set w8 o 0 (.slice ad5 (t + 1) cap5)) hol)
           have ok5 : Rok w8 (B + n + 4) L5 := fun y hy => by
            rcases hmem y hy with h | rfl | rfl
            ·exact ⟨hRq.zn hg5 (hokq y h).1, (hokq y h).2⟩
            ·exact ⟨hRq.zn hg5 hN, by show lN ≤ _; omega, hv⟩
            ·exact zr_ok _ _
           have hok3 : Hid (Rok (w8.setCell ⟨o, 0, none⟩ (.slice ad5 (t + 1) cap5)) (B + n + 4) L5) := ok5.grownU (gb_set w8 o 0 (.slice ad5 (t + 1) cap5)) (tb_noU y8)
           have hlays3 : Hid ((L5.take (t + 1)).map Raw.p = mapP (fun x => x / ((gcdL 0 qs : Nat) : Int)) (qs.take (t + 1))) := (show _ = _ by rw [htk, List.map_append, hps.out, mapP_snoc, hlays.out]; rfl)
           replace hgS := hide hgS
           clear hHeld hR5 ok5 hmem htk hb5 hg5 y8 hRq hokq hN yr hv3 kW kA hbr hnext
           go_wp2_with fail
           exact ⟨⟨t + 1, ad5, cap5, L5, by omega, by go_num, y3, hR3, hok3, hlays3, hgS⟩, by simp [intOf]; omega⟩
          exact AllReadyH.nil
         exact AllReadyH.nil
        exact AllReadyH.nil
       exact AllReadyH.nil
      exact AllReadyH.nil
     exact AllReadyH.nil
    exact AllReadyH.nil
   ·obtain rfl : n1 = t := by omega
    have hlen := hP7.out.1
    have hall : (L'.take n1).map Raw.p = mapP (fun x => x / ((gcdL 0 qs : Nat) : Int)) qs := by rw [hlays.out, List.take_of_length_le (by omega)]
    have hne9 : ∀ q ∈ qs, q.2 / ((gcdL 0 qs : Nat) : Int) ≠ 0 := fun q hq e => by
     have h9 := Int.mul_ediv_cancel' ((gcdL_dvd 0 qs).2 q hq)
     rw [e, Int.mul_zero] at h9
     exact hS.out.2 q hq h9.symm
    have hpn := rs_pn hR.out hok.out
    rw [hall, ← eachP_mapP (F := fun x => x / ((gcdL 0 qs : Nat) : Int)) hne9] at hpn
    have hzr := hzC.grownU hg.out (tb_noU yo)
    have hro : r ≠ o := by omega
    have hrw : r < wo.heap.size := by have := hk7.out.size; omega
    have yr0 : AB wr r 0 false none 0 0 none 0 0 false none 0 0 := (hg.out.block r hrw (by simpa using hro)).trans y1
    have hwo : w.heap.size ≤ o := by have := hp.out; omega
    have hbr : Below w.heap.size w wr := below_grown hbo.out hg.out hwo
    have hnew : ∀ b off, ad' = some ⟨b, off, none⟩ → wo.heap.size ≤ b := fun b off e => by
     rcases hR.out with ⟨h1, _⟩ | ⟨g9, h1, hg9, _⟩
     ·simp at h1
      rw [h1.1] at e
      cases e
     ·simp at h1
      rw [h1] at e
      simp at e
      omega
    have g6 := ab_set wr r (.int .i64 2) (.bool false) (.slice none 0 0) (.slice ad' n1 cap') (.bool sC) (.slice aC lC cC)
    have hF : Hid (lessF qs k = ⟨2, 0, eachP (fun x => x / ((gcdL 0 qs : Nat) : Int)) qs, (k - 1) / ((gcdL 0 qs : Nat) : Int) + 1⟩) := (show _ = _ by
     unfold lessF
     rw [if_neg (fun e => h0 (by rw [← hlen, e]; rfl))])
    have HH := hide (And.intro (ab_fin yr0 2 false none 0 0 ad' n1 cap' sC aC lC cC) (And.intro (hpn.away (fun b off e => by have h9 := hnew b off e; omega) g6 (ab_noU yr0)) (And.intro (hzr.grownU g6 (ab_noU yr0)) (And.intro (below_grown hbr g6 (show w.heap.size ≤ r by have := hp.out; omega)) (fun b off e => Nat.le_trans hbo.out.size (hnew b off e) : ∀ b off, ad' = some ⟨b, off, none⟩ → w.heap.size ≤ b)))))
    have e1 := yr.c1
    have e2 := yr.c2
    have i0 := yr0.c0
    have i1 := yr0.c1
    have i2 := yr0.c2
    have i3 := yr0.c3
    have i4 := yr0.c4
    have i5 := yr0.c5
    have j0 := yr0.f 0
    have j1 := yr0.f 1
    have j2 := yr0.f 2
    have j3 := yr0.f 3
    have j4 := yr0.f 4
    have j5 := yr0.f 5
    clear hall hne9 hpn hzr hro yr0 hbr hnew g6 hR hok hlays hg hP7 hk7 hbo yo hzC hd z1 y1 x1 yr xr
    go_wp2
    obtain ⟨yf, hPf, hzf, kf, hnf⟩ := HH.out
    refine bodyPost_ret (results_cell_row rfl _ _ r 29 _ (0, 0) _ rfl yf Tryz.underlying29 rfl (by kernel_rfl)) rfl ?_
    refine ⟨?_, kf⟩
    rw [hqs.out, hF.out]
    exact ⟨false, none, 0, 0, ad', n1, cap', sC, aC, lC, cC, by simp, zn_zero _, by omega, hPf.mono (by omega), by omega, hzf, by omega, hnf⟩
end Go.Proofs.YtjhhknfnaobmiaaGreatDoor

namespace Go.Proofs.YtjhhknfnaobmiaaGreatDoor
open Go.RowKit Go.Sort Go.Shelf
open Tm At

theorem sk5 {wb w' : World} {p q bp f t : Nat} {ad : Option Addr} {n cp : Nat} {s : Bool} {a : Option Addr} {l c : Nat} {u0 u1 u2 : Value} {s2 : Bool} {a2 : Option Addr} {l2 c2 : Nat} (x : TB wb q ad n cp s a l c) (z : ZB wb p s2 a2 l2 c2) (g0 : wb.cell? ⟨bp, f + t * 3, none⟩ = some u0) (g1 : wb.cell? ⟨bp, f + t * 3 + 1, none⟩ = some u1) (g2 : wb.cell? ⟨bp, f + t * 3 + 2, none⟩ = some u2) (hb : bp < wb.heap.size) (k : Below wb.heap.size wb w') :
  w'.cell? ⟨q, 0, none⟩ = some (.slice ad n cp) ∧ w'.cell? ⟨bp, f + t * 3, none⟩ = some u0 ∧ w'.cell? ⟨bp, f + t * 3 + 1, none⟩ = some u1 ∧ w'.cell? ⟨bp, f + t * 3 + 2, none⟩ = some u2 ∧ w'.cell? ⟨p, 0, none⟩ = some (.bool s2) ∧ w'.cell? ⟨p, 1, none⟩ = some (.slice a2 l2 c2) ∧ Below wb.heap.size wb w' :=
 ⟨(x.below k).c0, (k.cell (p := ⟨bp, f + t * 3, none⟩) hb).trans g0, (k.cell (p := ⟨bp, f + t * 3 + 1, none⟩) hb).trans g1, (k.cell (p := ⟨bp, f + t * 3 + 2, none⟩) hb).trans g2, (z.below k).c0, (z.below k).c1, k⟩

set_option maxRecDepth 100000 in
set_option maxHeartbeats 6400000 in
theorem rscale5_n {w : World} {s0 : Bool} {a0 : Option Addr} {l0 c0 : Nat} {k0 : Int} {ad : Option Addr} {n cp : Nat} {s : Bool} {a : Option Addr} {l c : Nat} {ps : List (Int × Int)} {k : Int} {B : Nat} (hk : Zm w s0 a0 l0 c0 k0) (hk0 : l0 ≤ B) (hP : Pr w ad n ps B) (hz : Zm w s a l c k) (hl : l ≤ B) (hn : n ≤ 262144) (hB : B ≤ 67108864) :
  Calls Tryz.prog 93 #[.agg #[.bool s0, .slice a0 l0 c0], .agg #[.slice ad n cp, .bool s, .slice a l c]] w fun e w' => ∃ ad' n' cp' s' a' l' c', e = .returned (.agg #[.slice ad' n' cp', .bool s', .slice a' l' c']) ∧ Pn w' ad' n' (nz (lays [] (mapP (fun x => k0 * x) ps))) (2 * B + n + 2) ∧ Zn w' s' a' l' c' (k0 * k) ∧ l' ≤ 2 * B + n + 2 ∧ n' ≤ n ∧ (∀ b off, ad' = some ⟨b, off, none⟩ → w.heap.size ≤ b) ∧ Below w.heap.size w w' := by
 go_enter Tryz.func93, Tryz.ntmps93
 go_wp2_with fail
 have z := ((zb_new w s0 a0 l0 c0).below (below_alloc _ (.cells #[.slice ad n cp, .bool s, .slice a l c] 27))).below (below_alloc _ (.cells #[.slice none 0 0, .bool false, .slice none 0 0] 27))
 have x := (tb_new (w.alloc (.cells #[.bool s0, .slice a0 l0 c0] 24)) ad n cp s a l c).below (below_alloc _ (.cells #[.slice none 0 0, .bool false, .slice none 0 0] 27))
 have y := tb_new ((w.alloc (.cells #[.bool s0, .slice a0 l0 c0] 24)).alloc (.cells #[.slice ad n cp, .bool s, .slice a l c] 27)) none 0 0 false none 0 0
 have b0 : Below w.heap.size w (((w.alloc (.cells #[.bool s0, .slice a0 l0 c0] 24)).alloc (.cells #[.slice ad n cp, .bool s, .slice a l c] 27)).alloc (.cells #[.slice none 0 0, .bool false, .slice none 0 0] 27)) := below_alloc' (below_alloc' (below_alloc _ _) _) _
 rw [show (w.alloc (.cells #[.bool s0, .slice a0 l0 c0] 24)).heap.size = w.heap.size + 1 from by simp] at x
 rw [show ((w.alloc (.cells #[.bool s0, .slice a0 l0 c0] 24)).alloc (.cells #[.slice ad n cp, .bool s, .slice a l c] 27)).heap.size = w.heap.size + 1 + 1 from by simp] at y
 generalize ((w.alloc (.cells #[.bool s0, .slice a0 l0 c0] 24)).alloc (.cells #[.slice ad n cp, .bool s, .slice a l c] 27)).alloc (.cells #[.slice none 0 0, .bool false, .slice none 0 0] 27) = wb at *
 have hwr : w.heap.size ≤ w.heap.size + 1 + 1 := by omega
 replace hP := hP.below b0
 replace hz := hz.below b0
 replace hk := hk.below b0
 generalize w.heap.size + 1 + 1 = r at *
 generalize w.heap.size + 1 = q at *
 have hwr' : Hid (w.heap.size ≤ r) := hwr
 clear hwr
 generalize hp : w.heap.size = p at *
 replace b0 : Hid (Below w.heap.size w wb) := hp ▸ b0
 replace hwr' : Hid (w.heap.size ≤ r) := (show w.heap.size ≤ r by rw [hp]; exact hwr'.out)
 clear hp
 go_loopw [5, 6] (fun v i wr => ∃ (t : Nat) (ad' : Option Addr) (cap' : Nat) (L' : List Raw), t ≤ n ∧ i = .int .i64 t ∧ v = .slice ad' t cap' ∧ Hid (RS wb.heap.size wr (.slice ad' t cap') t cap' L') ∧ Hid (Rok wr (2 * B + 1) L') ∧ Hid ((L'.take t).map Raw.p = mapP (fun x => k0 * x) (ps.take t)) ∧ Hid (Below wb.heap.size wb wr)) (fun _ i _ => n - (intOf i).toNat)
 case atStart => exact ⟨0, none, 0, [], Nat.zero_le _, rfl, rfl, .inl ⟨rfl, rfl, rfl, rfl⟩, (fun x hx => absurd hx (by simp)), (show _ = _ from rfl), Below.refl _ _⟩
 case round =>
  obtain ⟨t, ad', cap', L', ht, rfl, rfl, hR, hok, hlays, hkr⟩ := hrel
  have kr := hkr.out
  have xr := x.below kr
  have u0 := xr.c0
  by_cases htn : t < n
  ·obtain ⟨hpn, hPr⟩ := hP
   rcases hPr with hPr | ⟨bp, f, rfl, hPr⟩
   ·omega
   have hbpl := hPr.1
   obtain ⟨s3, a3, l3, c3, g0, g1, g2, hz3, hl3, hv⟩ := hPr.2 t (by omega)
   replace hz3 := hz3.below kr
   have hk3 := hk.below kr
   have hps : Hid (ps.take (t + 1) = ps.take t ++ [ps[t]]) := List.take_succ_eq_append_getElem (l := ps) (i := t) (by omega)
   generalize ps[t] = pp at *
   obtain ⟨pv, pz⟩ := pp
   dsimp only at *
   have hRq := hR.out
   have hokq := hok.out
   have HH := hide (And.intro kr (And.intro hz3 (And.intro hk3 (And.intro hRq hokq))))
   clear kr hz3 hk3 hRq hokq hPr
   go_wp2_with fail
   obtain ⟨kr, hz3, hk3, hRq, hokq⟩ := HH.out
   clear HH
   refine wp_region_held_drew (S := (fun w' => w'.cell? ⟨q, 0, none⟩ = some (.slice (some ⟨bp, f, none⟩) n cp) ∧ w'.cell? ⟨bp, f + t * 3, none⟩ = some (.int .i64 pv) ∧ w'.cell? ⟨bp, f + t * 3 + 1, none⟩ = some (.bool s3) ∧ w'.cell? ⟨bp, f + t * 3 + 2, none⟩ = some (.slice a3 l3 c3) ∧ w'.cell? ⟨p, 0, none⟩ = some (.bool s0) ∧ w'.cell? ⟨p, 1, none⟩ = some (.slice a0 l0 c0) ∧ Below wb.heap.size wb w')) (by kernel_rfl) (sk5 x z g0 g1 g2 hbpl (grow_drew kr)) (fun hHeld => ?_)
   show wpAnyH _ _ _ _ _ 19 _ _ _
   have kd := grow_drew (Below.refl wr.heap.size wr)
   have kW := grow_drew kr
   have hRq := hRq.below kd
   have hokq := hokq.below kd
   have hz3 := hz3.below kd
   have hk3 := hk3.below kd
   clear kd
   generalize wr.drew = wQ at *
   refine wpAnyH_take (i := 0) (oi := ⟨some 14, _, _, _, _, _⟩) (v := ?_) rfl (by kernel_rfl) (by kernel_rfl) (by kernel_rfl) (fun _ _ _ h => h) (Or.inl ⟨by rfl, ?_⟩) (by assumption) ?_
   rotate_left
   ·intro wq hSw; (try dsimp only at hSw); go_simp; (try with_reducible rfl)
   (try simp only [Act.put, List.setIfInBounds_toArray, List.set_cons_zero, List.set_cons_succ])
   refine wpAnyH_take (i := 1) (oi := ⟨some 15, _, _, _, _, _⟩) (v := ?_) rfl (by kernel_rfl) (by kernel_rfl) (by kernel_rfl) (fun _ _ _ h => h) (Or.inl ⟨by rfl, ?_⟩) (by assumption) ?_
   rotate_left
   ·intro wq hSw; (try dsimp only at hSw); go_simp; (try with_reducible rfl)
   (try simp only [Act.put, List.setIfInBounds_toArray, List.set_cons_zero, List.set_cons_succ])
   refine wpAnyH_take (i := 2) (oi := ⟨some 16, _, _, _, _, _⟩) (v := ?_) rfl (by kernel_rfl) (by kernel_rfl) (by kernel_rfl) (fun _ _ _ h => h) (Or.inl ⟨by rfl, ?_⟩) (by assumption) ?_
   rotate_left
   ·intro wq hSw; (try dsimp only at hSw); go_simp; (try with_reducible rfl)
   (try simp only [Act.put, List.setIfInBounds_toArray, List.set_cons_zero, List.set_cons_succ])
   refine wpAnyH_take (i := 3) (oi := ⟨some 17, _, _, _, _, _⟩) (v := ?_) rfl (by kernel_rfl) (by kernel_rfl) (by kernel_rfl) (fun _ _ _ h => h) (Or.inl ⟨by rfl, ?_⟩) (by assumption) ?_
   rotate_left
   ·intro wq hSw; (try dsimp only at hSw); go_simp; (try with_reducible rfl)
   (try simp only [Act.put, List.setIfInBounds_toArray, List.set_cons_zero, List.set_cons_succ])
   refine wpAnyH_take (i := 4) (oi := ⟨some 18, _, _, _, _, _⟩) (v := ?_) rfl (by kernel_rfl) (by kernel_rfl) (by kernel_rfl) (fun _ _ _ h => h) (Or.inl ⟨by rfl, ?_⟩) (by assumption) ?_
   rotate_left
   ·intro wq hSw; (try dsimp only at hSw); go_simp; (try with_reducible rfl)
   (try simp only [Act.put, List.setIfInBounds_toArray, List.set_cons_zero, List.set_cons_succ])
   refine wpAnyH_take (i := 5) (oi := ⟨some 19, _, _, _, _, _⟩) (v := ?_) rfl (by kernel_rfl) (by kernel_rfl) (by kernel_rfl) (fun _ _ _ h => h) (Or.inl ⟨by rfl, ?_⟩) (by assumption) ?_
   rotate_left
   ·intro wq hSw; (try dsimp only at hSw); go_simp; (try with_reducible rfl)
   (try simp only [Act.put, List.setIfInBounds_toArray, List.set_cons_zero, List.set_cons_succ])
   refine wpAnyH_take (i := 6) (oi := ⟨some 20, _, _, _, _, _⟩) (v := ?_) rfl (by kernel_rfl) (by kernel_rfl) (by kernel_rfl) (fun _ _ _ h => h) (Or.inl ⟨by rfl, ?_⟩) (by assumption) ?_
   rotate_left
   ·intro wq hSw; (try dsimp only at hSw); go_simp; (try with_reducible rfl)
   (try simp only [Act.put, List.setIfInBounds_toArray, List.set_cons_zero, List.set_cons_succ])
   refine wpAnyH_take (i := 7) (oi := ⟨some 21, _, _, _, _, _⟩) (v := ?_) rfl (by kernel_rfl) (by kernel_rfl) (by kernel_rfl) (fun _ _ _ h => h) (Or.inl ⟨by rfl, ?_⟩) (by assumption) ?_
   rotate_left
   ·intro wq hSw; (try dsimp only at hSw); go_simp; (try with_reducible rfl)
   (try simp only [Act.put, List.setIfInBounds_toArray, List.set_cons_zero, List.set_cons_succ])
   refine wpAnyH_take (i := 8) (oi := ⟨some 22, _, _, _, _, _⟩) (v := ?_) rfl (by kernel_rfl) (by kernel_rfl) (by kernel_rfl) (fun _ _ _ h => h) (Or.inl ⟨by rfl, ?_⟩) (by assumption) ?_
   rotate_left
   ·intro wq hSw; (try dsimp only at hSw); go_simp; (try with_reducible rfl)
   (try simp only [Act.put, List.setIfInBounds_toArray, List.set_cons_zero, List.set_cons_succ])
   refine wpAnyH_take (i := 9) (oi := ⟨some 23, _, _, _, _, _⟩) (v := ?_) rfl (by kernel_rfl) (by kernel_rfl) (by kernel_rfl) (fun _ _ _ h => h) (Or.inl ⟨by rfl, ?_⟩) (by assumption) ?_
   rotate_left
   ·intro wq hSw; (try dsimp only at hSw); go_simp; (try with_reducible rfl)
   (try simp only [Act.put, List.setIfInBounds_toArray, List.set_cons_zero, List.set_cons_succ])
   refine wpAnyH_take (i := 10) (oi := ⟨some 24, _, _, _, _, _⟩) (v := ?_) rfl (by kernel_rfl) (by kernel_rfl) (by kernel_rfl) (fun _ _ _ h => h) (Or.inl ⟨by rfl, ?_⟩) (by assumption) ?_
   rotate_left
   ·intro wq hSw; (try dsimp only at hSw); go_simp; (try with_reducible rfl)
   (try simp only [Act.put, List.setIfInBounds_toArray, List.set_cons_zero, List.set_cons_succ])
   refine wpAnyH_take (i := 11) (oi := ⟨some 25, _, _, _, _, _⟩) (v := ?_) rfl (by kernel_rfl) (by kernel_rfl) (by kernel_rfl) (fun _ _ _ h => h) (Or.inl ⟨by rfl, ?_⟩) (by assumption) ?_
   rotate_left
   ·intro wq hSw; (try dsimp only at hSw); go_simp; (try with_reducible rfl)
   (try simp only [Act.put, List.setIfInBounds_toArray, List.set_cons_zero, List.set_cons_succ])
   refine wpAnyH_take (i := 12) (oi := ⟨some 26, _, _, _, _, _⟩) (v := ?_) rfl (by kernel_rfl) (by kernel_rfl) (by kernel_rfl) (fun _ _ _ h => h) (Or.inl ⟨by rfl, ?_⟩) (by assumption) ?_
   rotate_left
   ·intro wq hSw; (try dsimp only at hSw); go_simp; (try with_reducible rfl)
   (try simp only [Act.put, List.setIfInBounds_toArray, List.set_cons_zero, List.set_cons_succ])
   refine wpAnyH_take (i := 13) (oi := ⟨some 27, _, _, _, _, _⟩) (v := ?_) rfl (by kernel_rfl) (by kernel_rfl) (by kernel_rfl) (fun _ _ _ h => h) (Or.inl ⟨by rfl, ?_⟩) (by assumption) ?_
   rotate_left
   ·intro wq hSw; (try dsimp only at hSw); go_simp; (try with_reducible rfl)
   (try simp only [Act.put, List.setIfInBounds_toArray, List.set_cons_zero, List.set_cons_succ])
   refine wpAnyH_ready (rs := [14]) (by kernel_rfl) (by simp) ?_
   refine AllReadyH.cons (o := ⟨some 28, _, _, _, _, _⟩) rfl (fun K hK => ?_) AllReadyH.nil
   go_simp
   go_at_call 117; refine Calls.mono (rmul2_n hk3 hz3 (by omega) (by omega)) ?_; rintro e wA ⟨sN, aN, lN, cN, rfl, hN, kA, hlN⟩
   have hRq := hRq.below kA
   have hokq := hokq.below kA
   have kW := grow_step kA kW
   (try go_wp2_with fail)
   refine hK.out _ _ ?_ ?_
   ·(try dsimp only); exact sk5 x z g0 g1 g2 hbpl kW
   clear hK K hHeld; intro hHeld
   (try simp only [Act.put, List.setIfInBounds_toArray, List.set_cons_zero, List.set_cons_succ])
   refine wpAnyH_ready (rs := [15]) (by kernel_rfl) (by simp) ?_
   refine AllReadyH.cons (o := ⟨some 29, _, _, _, _, _⟩) rfl (fun K hK => ?_) AllReadyH.nil
   go_simp
   refine hK.out _ _ ?_ ?_
   ·(try dsimp only); exact sk5 x z g0 g1 g2 hbpl kW
   clear hK K hHeld; intro hHeld
   (try simp only [Act.put, List.setIfInBounds_toArray, List.set_cons_zero, List.set_cons_succ])
   refine wpAnyH_ready (rs := [16]) (by kernel_rfl) (by simp) ?_
   refine AllReadyH.cons (o := ⟨some 30, _, _, _, _, _⟩) rfl (fun K hK => ?_) AllReadyH.nil
   have kL := below_alloc wA (.cells #[.int .i64 pv, .bool sN, .slice aN lN cN] 71)
   have hRq := hRq.below kL
   have hokq := hokq.below kL
   have hN := hN.below kL
   have hv3 := v3_new wA pv sN aN lN cN
   have kW := grow_step kL kW
   go_simp
   refine hK.out _ _ ?_ ?_
   ·(try dsimp only); exact sk5 x z g0 g1 g2 hbpl kW
   clear hK K hHeld; intro hHeld
   (try simp only [Act.put, List.setIfInBounds_toArray, List.set_cons_zero, List.set_cons_succ])
   generalize wA.alloc (.cells #[.int .i64 pv, .bool sN, .slice aN lN cN] 71) = wL at *
   refine wpAnyH_ready (rs := [17]) (by kernel_rfl) (by simp) ?_
   refine AllReadyH.cons (o := ⟨some 31, _, _, _, _, _⟩) rfl (fun K hK => ?_) AllReadyH.nil
   refine anyH_append rfl _ _ 25 rfl _ _ rfl rfl _ (run_append_rs (w0 := wb) hRq kW ⟨pv, sN, aN, lN, cN, k0 * pz⟩ ⟨wA.heap.size, 0, none⟩ hv3 (by omega) _) ?_
   rintro v5 w8 ⟨cap5, L5, hR5, htk, hmem, hb5, hg5, -⟩
   obtain ⟨ad5, rfl⟩ := hR5.row
   have kW := hb5
   refine hK.out _ _ ?_ ?_
   ·(try dsimp only); exact sk5 x z g0 g1 g2 hbpl kW
   clear hK K hHeld; intro hHeld
   (try simp only [Act.put, List.setIfInBounds_toArray, List.set_cons_zero, List.set_cons_succ])
   refine wpAnyH_ready (rs := [18]) (by kernel_rfl) (by simp) ?_
   refine AllReadyH.cons (o := ⟨some 5, _, _, _, _, _⟩) rfl (fun K hK => ?_) AllReadyH.nil
   go_simp
   refine hK.out _ _ ?_ ?_
   ·(try dsimp only); exact sk5 x z g0 g1 g2 hbpl kW
   clear hK K hHeld; intro hHeld
   (try simp only [Act.put, List.setIfInBounds_toArray, List.set_cons_zero, List.set_cons_succ])
   refine wpAnyH_done (by kernel_rfl) ?_ _
   have ok5 : Rok w8 (2 * B + 1) L5 := fun y hy => by
    rcases hmem y hy with h | rfl | rfl
    ·exact ⟨hRq.zn hg5 (hokq y h).1, (hokq y h).2⟩
    ·exact ⟨hRq.zn hg5 hN, by show lN ≤ _; omega, hv⟩
    ·exact zr_ok _ _
   have hlays3 : Hid ((L5.take (t + 1)).map Raw.p = mapP (fun x => k0 * x) (ps.take (t + 1))) := (show _ = _ by rw [htk, List.map_append, hps.out, mapP_snoc, hlays.out]; rfl)
   replace hR5 := hide hR5
   replace ok5 := hide ok5
   replace hb5 := hide hb5
   clear hHeld hmem htk hg5 hRq hokq hN hv3 kW kA kL
   go_wp2_with fail
   exact ⟨⟨t + 1, ad5, cap5, L5, by omega, by go_num, rfl, hR5, ok5, hlays3, hb5⟩, by simp [intOf]; omega⟩
  ·obtain rfl : n = t := by omega
   have hall : (L'.take n).map Raw.p = mapP (fun x => k0 * x) ps := by rw [hlays.out, List.take_of_length_le (by have := hP.1; omega)]
   have hPr := rs_pr hR.out hok.out
   rw [hall] at hPr
   have hzr := hz.below kr
   have hk3 := hk.below kr
   have zr := z.below kr
   have yr := y.below kr
   have hbr : Hid (Below w.heap.size w wr) := grow_step kr b0.out
   have e0 := zr.c0
   have e1 := zr.c1
   have u1 := xr.c1
   have u2 := xr.c2
   clear hlays hall hR hok hkr
   go_wp2_with fail
   refine (rmul2_n hk3 hzr (by omega) (by omega)).mono ?_
   rintro e w2 ⟨sM, aM, lM, cM, rfl, hM, k2, hlM⟩
   replace hPr := hPr.below k2
   replace yr := yr.below k2
   replace hbr := hide (grow_step k2 hbr.out)
   clear k2 e0 e1 u0 u1 u2 hzr hk3 zr xr kr
   go_wp2_with fail
   refine (rnorm5_w (B := 2 * B + 1) hPr hM.zm (by omega) (by omega) (by omega)).mono ?_
   rintro e w3 ⟨adN, nN, cpN, sN, aN, lN, cN, rfl, hTW, hzN, kN, hnN, hPN, hnewN⟩
   have hlN := hTW.2.2
   have y2 := yr.below kN
   have v0 := y2.c0
   have v1 := y2.c1
   have v2 := y2.c2
   have v3 := y2.f 0
   have v4 := y2.f 1
   have v5 := y2.f 2
   have g := tb_set w3 r (.slice adN nN cpN) (.bool sN) (.slice aN lN cN)
   have HH := hide (And.intro (hPN.tb y2 g) (And.intro (hzN.grownU g (tb_noU y2)) (And.intro (below_grown (grow_step kN hbr.out) g hwr'.out) (And.intro (tb_fin y2 adN nN cpN sN aN lN cN) (fun b off e => Nat.le_trans hbr.out.size (hnewN b off e))))))
   clear hTW hzN kN hPN hnewN y2 yr g hPr hbr hM
   go_wp2
   obtain ⟨hPf, hzf, kf, yf, hnf⟩ := HH.out
   refine bodyPost_ret (results_cell_row rfl _ _ r 27 _ (0, 0) _ rfl yf Tryz.underlying27 rfl (by kernel_rfl)) rfl ?_
   exact ⟨adN, nN, cpN, sN, aN, lN, cN, by simp, hPf.mono (by omega), hzf, by omega, hnN, hnf, kf⟩
end Go.Proofs.YtjhhknfnaobmiaaGreatDoor
