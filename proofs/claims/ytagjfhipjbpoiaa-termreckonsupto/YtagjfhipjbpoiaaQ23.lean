/-
 Several texts in one: YZ, YZ2, YZ3, YZ4, LTermReckons.
-/
import Derived.Test.YtagjfhipjbpoiaaQ19
import Derived.Test.YtagjfhipjbpoiaaQ22
import Derived.Laws.AppendOwnNone
namespace Go.Proofs.Ytagjfhipjbpoiaa
open Go.RowKit Go.Sort Go.Shelf
open Tm

theorem lays_congr {ps qs : List (Int × Int)} (h : ∀ v, csum ps v = csum qs v) : nz (lays [] ps) = nz (lays [] qs) := lays_eq (std_lays ps) fun v => (csum_nzl ps v).trans (h v)
set_option maxRecDepth 100000 in
/-- append of all parts of a list to a row of one's own -/
theorem append_parts {w0 w : World} {v : Value} {k : Nat} {rs : List Raw} {ad : Option Addr} {n cp : Nat} {ps : List (Int × Int)} {B : Nat} (hb : Below w0.heap.size w0 w) (hown : w.ownsRow w0.heap.size 62 3 v k (flat rs)) (hP : Pr w0 ad n ps B) (hk : k + n ≤ 1073741824) (ty : TypeId) :
  ∃ v' w', (Builtin.append_ #[22, 22] ty #[v, .slice ad n cp]).run Try.prog w = .ok v' w' ∧ Below w0.heap.size w0 w' ∧ ∃ rs2, rs2.map Raw.p = ps ∧ (∀ x ∈ rs2, x.okm w0 B) ∧ w'.ownsRow w0.heap.size 62 3 v' (k + n) (flat (rs ++ rs2)) := by
 obtain ⟨i0, hi, hz0, hz1, hz2⟩ := info_parts infoP
 cases ad with
 | none =>
  have h0 : n = 0 := by
   rcases hP.2 with h | ⟨b, off, e, _⟩
   ·exact h
   ·cases e
  subst h0
  have hps : ps = [] := List.eq_nil_of_length_eq_zero hP.1
  subst hps
  refine ⟨v, w, ?_, hb, [], rfl, fun x hx => (by cases hx), by simpa using hown⟩
  rcases hown.2 with ⟨rfl, rfl⟩ | ⟨g, cap, cur, rfl, _, _, hnc, _, _, _⟩
  ·simp [Builtin.append_, run_underlying Try.underlying22, sizeOf, typeInfo, hi, Builtin.lenOf, Builtin.firstCells]
  ·simp [Builtin.append_, run_underlying Try.underlying22, sizeOf, typeInfo, hi, Builtin.lenOf, Builtin.firstCells, storeCells, hnc]
 | some ad =>
  have hraw : ∃ rs2 : List Raw, rs2.map Raw.p = ps ∧ (∀ x ∈ rs2, x.okm w0 B) ∧ (flat rs2).length = n * 3 ∧ ∀ j u, (flat rs2)[j]? = some u → w.cell? (ad.add j) = some u := by
   rcases hP.2 with h0 | ⟨b, off, e, hPL⟩
   ·have hvs : ps = [] := List.eq_nil_of_length_eq_zero (by rw [hP.1]; exact h0)
    subst hvs
    exact ⟨[], rfl, fun x hx => (by cases hx), by rw [h0]; rfl, fun j u hu => by simp [flat] at hu⟩
   ·cases e
    obtain ⟨rs2, h1, h2, h3⟩ := pl_raw hPL
    refine ⟨rs2, h1, h2, by rw [flat_length, ← hP.1, ← h1, List.length_map], fun j u hu => ?_⟩
    rw [Addr.add_lit]
    exact (hb.cell (p := ⟨b, off + j, none⟩) hPL.1).trans (h3 j u hu)
  obtain ⟨rs2, h1, h2, h3, h4⟩ := hraw
  obtain ⟨v', w', hr, hrow, hgr, -⟩ := run_append_own (P := Try.prog) w w0.heap.size 22 ty 62 i0 _ 3 40 Try.underlying22 hi hz0 hz1 hz2 rfl (by decide) v k _ hown ad n cp (flat rs2) h3 h4 (fun u hu => by
   obtain ⟨x, _, hx⟩ := List.mem_flatMap.1 hu
   exact v3_one _ _ _ _ _ u hx) (by unfold maxLen; omega) (by omega) hb.size
  exact ⟨v', w', hr, hb.grown hgr hb.size (fun k e => (hown.lt k e).1), rs2, h1, h2, by rw [flat_append]; exact hrow⟩

set_option maxRecDepth 100000 in
set_option maxHeartbeats 1600000 in
theorem radd5_n {w : World} {ad : Option Addr} {n cp : Nat} {s : Bool} {a : Option Addr} {l c : Nat} {ps : List (Int × Int)} {k : Int} {ad2 : Option Addr} {n2 cp2 : Nat} {s2 : Bool} {a2 : Option Addr} {l2 c2 : Nat} {qs : List (Int × Int)} {k2 : Int} {B : Nat} (hP : Pr w ad n ps B) (hz : Zm w s a l c k) (hl : l ≤ B) (hP2 : Pr w ad2 n2 qs B) (hz2 : Zm w s2 a2 l2 c2 k2) (hl2 : l2 ≤ B) (hB : B + 1 + (n + n2) ≤ 268435456) :
  Calls Try.prog 27 #[.agg #[.slice ad n cp, .bool s, .slice a l c], .agg #[.slice ad2 n2 cp2, .bool s2, .slice a2 l2 c2]] w fun e w' => ∃ ad' n' cp' s' a' l' c', e = .returned (.agg #[.slice ad' n' cp', .bool s', .slice a' l' c']) ∧ Pn w' ad' n' (nz (lays [] (ps ++ qs))) (B + 1 + (n + n2) + 1) ∧ Zn w' s' a' l' c' (k + k2) ∧ l' ≤ B + 1 + (n + n2) + 1 ∧ n' ≤ n + n2 ∧ Below w.heap.size w w' := by
 have x := ((tb_new w ad n cp s a l c).below (below_alloc _ (.cells #[.slice ad2 n2 cp2, .bool s2, .slice a2 l2 c2] 27))).below (below_alloc _ (.cells #[.slice none 0 0, .bool false, .slice none 0 0] 27))
 have x2 := (tb_new (w.alloc (.cells #[.slice ad n cp, .bool s, .slice a l c] 27)) ad2 n2 cp2 s2 a2 l2 c2).below (below_alloc _ (.cells #[.slice none 0 0, .bool false, .slice none 0 0] 27))
 have y := tb_new ((w.alloc (.cells #[.slice ad n cp, .bool s, .slice a l c] 27)).alloc (.cells #[.slice ad2 n2 cp2, .bool s2, .slice a2 l2 c2] 27)) none 0 0 false none 0 0
 have b0 : Below w.heap.size w (((w.alloc (.cells #[.slice ad n cp, .bool s, .slice a l c] 27)).alloc (.cells #[.slice ad2 n2 cp2, .bool s2, .slice a2 l2 c2] 27)).alloc (.cells #[.slice none 0 0, .bool false, .slice none 0 0] 27)) := below_alloc' (below_alloc' (below_alloc _ _) _) _
 rw [show (w.alloc (.cells #[.slice ad n cp, .bool s, .slice a l c] 27)).heap.size = w.heap.size + 1 from by simp] at x2
 rw [show ((w.alloc (.cells #[.slice ad n cp, .bool s, .slice a l c] 27)).alloc (.cells #[.slice ad2 n2 cp2, .bool s2, .slice a2 l2 c2] 27)).heap.size = w.heap.size + 1 + 1 from by simp] at y
 obtain ⟨v1, w1, hrun1, hb1, rs1, hm1, ho1, hrow1⟩ := append_parts (cp := cp) (rs := []) (Below.refl _ _) (World.ownsRow_nil (((w.alloc (.cells #[.slice ad n cp, .bool s, .slice a l c] 27)).alloc (.cells #[.slice ad2 n2 cp2, .bool s2, .slice a2 l2 c2] 27)).alloc (.cells #[.slice none 0 0, .bool false, .slice none 0 0] 27)) _ _ _) (hP.below b0) (by omega) 22
 obtain ⟨v2, w2, hrun2, hb2, rs2, hm2, ho2, hrow2⟩ := append_parts (cp := cp2) hb1 hrow1 (hP2.below b0) (by omega) 22
 obtain ⟨ad3, cp3, rfl, hPr⟩ := row_pr (B := B) hrow2 (fun q hq => by
  have hq' : q ∈ rs1 ∨ q ∈ rs2 := by simpa using hq
  rcases hq' with h | h
  ·exact ⟨(ho1 q h).1.below hb2, (ho1 q h).2⟩
  ·exact ⟨(ho2 q h).1.below hb2, (ho2 q h).2⟩)
 rw [List.map_append, List.map_append, hm1, hm2, List.map_nil, List.nil_append, Nat.zero_add] at hPr
 have x2c := (x2.below hb1).c0
 have k1 := (x.below hb2).c1
 have k2' := (x.below hb2).c2
 have k3 := (x2.below hb2).c1
 have k4 := (x2.below hb2).c2
 have yw := hide (y.below hb2)
 have hzw := hide (hz.below (grow_step hb2 b0))
 have hzw2 := hide (hz2.below (grow_step hb2 b0))
 have hbw := hide (grow_step hb2 b0)
 replace hPr := hide hPr
 clear x y x2 b0 hb1 hb2 hrow1 hrow2 ho1 ho2 hm1 hm2 hP hP2 hz hz2
 go_enter Try.func27, Try.ntmps27
 go_wp2_with (at_builtin; first | (refine wpList_append_run rfl _ _ 22 rfl _ _ rfl rfl (fun v' w' => v' = v1 ∧ w1 = w') ⟨_, _, hrun1, rfl, rfl⟩ ?_; rintro v' w' ⟨rfl, rfl⟩; clear hrun1) | (refine wpList_append_run rfl _ _ 22 rfl _ _ rfl rfl (fun v' w' => v' = .slice ad3 (0 + n + n2) cp3 ∧ w2 = w') ⟨_, _, hrun2, rfl, rfl⟩ ?_; rintro v' w' ⟨rfl, rfl⟩; clear hrun2))
 clear x2c
 refine (radd2_n hzw.out hzw2.out (by omega) (by omega)).mono ?_
 rintro e w3 ⟨sM, aM, lM, cM, rfl, hM, k3w, hlM⟩
 replace hPr := hide (hPr.out.below k3w)
 replace yw := hide (yw.out.below k3w)
 replace hbw := hide (grow_step k3w hbw.out)
 clear k3w k1 k2' k3 k4 hzw hzw2
 go_wp2_with fail
 refine (rnorm5_w (B := B + 1) (hPr.out.mono (by omega)) hM.zm (by omega) (by omega) (by omega)).mono ?_
 rintro e w4 ⟨adN, nN, cpN, sN, aN, lN, cN, rfl, hTW, hzN, kN, hnN, hPN, -⟩
 have hlN := hTW.2.2
 have y2 := yw.out.below kN
 have v0 := y2.c0
 have v1 := y2.c1
 have v2 := y2.c2
 have v3 := y2.f 0
 have v4 := y2.f 1
 have v5 := y2.f 2
 have g := tb_set w4 (w.heap.size + 1 + 1) (.slice adN nN cpN) (.bool sN) (.slice aN lN cN)
 have HH := hide (And.intro (hPN.tb y2 g) (And.intro (hzN.grownU g (tb_noU y2)) (And.intro (below_grown (grow_step kN hbw.out) g (by omega)) (tb_fin y2 adN nN cpN sN aN lN cN))))
 clear hTW hzN kN hPN y2 yw g hPr hbw hM
 go_wp2
 obtain ⟨hPf, hzf, kf, yf⟩ := HH.out
 refine bodyPost_ret (results_cell_row rfl _ _ (w.heap.size + 1 + 1) 27 _ (0, 0) _ rfl yf Try.underlying27 rfl (by kernel_rfl)) rfl ?_
 exact ⟨adN, nN, cpN, sN, aN, lN, cN, by simp, hPf.mono (by omega), hzf, by omega, by omega, kf⟩
end Go.Proofs.Ytagjfhipjbpoiaa

namespace Go.Proofs.Ytagjfhipjbpoiaa
open Go.RowKit Go.Sort Go.Shelf
open Tm

theorem ck5 {w w' : World} {p bp f t : Nat} {ad : Option Addr} {n cp : Nat} {s : Bool} {a : Option Addr} {l c : Nat} {u1 u2 : Value} (x : TB w' p ad n cp s a l c) (g1 : w.cell? ⟨bp, f + t * 3 + 1, none⟩ = some u1) (g2 : w.cell? ⟨bp, f + t * 3 + 2, none⟩ = some u2) (hb : bp < w.heap.size) (k : Below w.heap.size w w') :
  w'.cell? ⟨p, 0, none⟩ = some (.slice ad n cp) ∧ w'.cell? ⟨bp, f + t * 3 + 1, none⟩ = some u1 ∧ w'.cell? ⟨bp, f + t * 3 + 2, none⟩ = some u2 :=
 ⟨x.c0, (k.cell (p := ⟨bp, f + t * 3 + 1, none⟩) hb).trans g1, (k.cell (p := ⟨bp, f + t * 3 + 2, none⟩) hb).trans g2⟩

set_option maxRecDepth 100000 in
set_option maxHeartbeats 1600000 in
theorem rcoef5_n {w : World} {ad : Option Addr} {n cp : Nat} {s : Bool} {a : Option Addr} {l c : Nat} {ps : List (Int × Int)} {B : Nat} {v : Int} (hP : Pr w ad n ps B) (hB : B + n ≤ 268435456) :
  Calls Try.prog 31 #[.agg #[.slice ad n cp, .bool s, .slice a l c], .int .i64 v] w fun e w' => ∃ s' a' l' c', e = .returned (.agg #[.bool s', .slice a' l' c']) ∧ Zn w' s' a' l' c' (csum ps v) ∧ l' ≤ B + n ∧ Below w.heap.size w w' := by
 obtain ⟨hn, hP⟩ := hP
 go_enter Try.func31, Try.ntmps31
 go_wp2_with fail
 have x := ((tb_new w ad n cp s a l c).below (below_alloc _ (.cells #[.bool false, .slice none 0 0] 25))).below (below_alloc _ (.cells #[.bool false, .slice none 0 0] 25))
 have y := (zb_new (w.alloc (.cells #[.slice ad n cp, .bool s, .slice a l c] 27)) false none 0 0).below (below_alloc _ (.cells #[.bool false, .slice none 0 0] 25))
 have q := zb_new ((w.alloc (.cells #[.slice ad n cp, .bool s, .slice a l c] 27)).alloc (.cells #[.bool false, .slice none 0 0] 25)) false none 0 0
 have b0 : Below w.heap.size w (((w.alloc (.cells #[.slice ad n cp, .bool s, .slice a l c] 27)).alloc (.cells #[.bool false, .slice none 0 0] 25)).alloc (.cells #[.bool false, .slice none 0 0] 25)) := below_alloc' (below_alloc' (below_alloc _ _) _) _
 rw [show (w.alloc (.cells #[.slice ad n cp, .bool s, .slice a l c] 27)).heap.size = w.heap.size + 1 from by simp] at y
 rw [show ((w.alloc (.cells #[.slice ad n cp, .bool s, .slice a l c] 27)).alloc (.cells #[.bool false, .slice none 0 0] 25)).heap.size = w.heap.size + 1 + 1 from by simp] at q
 generalize ((w.alloc (.cells #[.slice ad n cp, .bool s, .slice a l c] 27)).alloc (.cells #[.bool false, .slice none 0 0] 25)).alloc (.cells #[.bool false, .slice none 0 0] 25) = wb at *
 have hpr : w.heap.size < w.heap.size + 1 ∧ w.heap.size + 1 < w.heap.size + 1 + 1 := by omega
 generalize hp : w.heap.size = p at *
 replace b0 : Hid (Below w.heap.size w wb) := hp ▸ b0
 replace hp := hide hp
 generalize p + 1 = r at *
 generalize r + 1 = u at *
 replace hpr := hide hpr
 go_loopw [6] (fun i wr => ∃ (t : Nat) (s1 : Bool) (a1 : Option Addr) (l1 c1 : Nat), t ≤ n ∧ i = .int .i64 t ∧ Hid (TB wr p ad n cp s a l c) ∧ Hid (ZB wr r false none 0 0) ∧ Hid (ZB wr u s1 a1 l1 c1) ∧ Hid (Zn wr s1 a1 l1 c1 (csum (ps.take t) v)) ∧ l1 ≤ B + t ∧ Hid (Below w.heap.size w wr)) (fun i _ => n - (intOf i).toNat)
 case atStart => exact ⟨0, false, none, 0, 0, Nat.zero_le _, rfl, x, y, q, (by simpa [csum] using hide (zn_zero wb)), by omega, b0⟩
 case round =>
  obtain ⟨t, s1, a1, l1, c1, ht, rfl, hx, hy, hq, hs, hl1, kr⟩ := hrel
  have u0 := hx.out.c0
  by_cases htn : t < n
  ·rcases hP with h0 | ⟨bp, f, rfl, hPL⟩
   ·omega
   obtain ⟨s3, a3, l3, c3, g0, g1, g2, hz3, hl3, hv⟩ := hPL.2 t (by omega)
   have hbl : Hid (bp < w.heap.size) := hPL.1
   have hps : Hid (ps.take (t + 1) = ps.take t ++ [ps[t]]) := List.take_succ_eq_append_getElem (l := ps) (i := t) (by omega)
   generalize ps[t] = pp at *
   obtain ⟨pv, pz⟩ := pp
   dsimp only at *
   have m0 := (kr.out.cell (p := ⟨bp, f + t * 3, none⟩) hPL.1).trans g0
   replace g1 := hide g1
   replace g2 := hide g2
   replace hz3 := hide hz3
   by_cases hvv : pv = v
   ·subst hvv
    have i0 := hq.out.c0
    have i1 := hq.out.c1
    go_wp2_with fail
    clear i0 i1 m0
    have kd := grow_drew (Below.refl wr.heap.size wr)
    have kW := hide (grow_step kd kr.out)
    have xW := hide (hx.out.below kd)
    have yW := hide (hy.out.below kd)
    have qW := hide (hq.out.below kd)
    have hsW := hide (hs.out.below kd)
    clear kd u0
    refine wp_region_held_drew (S := (fun w' => w'.cell? ⟨p, 0, none⟩ = some (.slice (some ⟨bp, f, none⟩) n cp) ∧ w'.cell? ⟨bp, f + t * 3 + 1, none⟩ = some (.bool s3) ∧ w'.cell? ⟨bp, f + t * 3 + 2, none⟩ = some (.slice a3 l3 c3))) (by kernel_rfl) (ck5 xW.out g1.out g2.out hbl.out kW.out) (fun hHeld => ?_)
    show wpAnyH _ _ _ _ _ 9 _ _ _
    refine wpAnyH_take (i := 1) (oi := ⟨some 24, _, _, _, _, _⟩) (v := ?_) rfl (by kernel_rfl) (by kernel_rfl) (by kernel_rfl) (fun _ _ _ h => h) (Or.inl ⟨by rfl, ?_⟩) (by assumption) ?_
    rotate_left
    ·intro wq hSw; (try dsimp only at hSw); go_simp; (try with_reducible rfl)
    (try simp only [Act.put, List.setIfInBounds_toArray, List.set_cons_zero, List.set_cons_succ])
    refine wpAnyH_take (i := 2) (oi := ⟨some 25, _, _, _, _, _⟩) (v := ?_) rfl (by kernel_rfl) (by kernel_rfl) (by kernel_rfl) (fun _ _ _ h => h) (Or.inl ⟨by rfl, ?_⟩) (by assumption) ?_
    rotate_left
    ·intro wq hSw; (try dsimp only at hSw); go_simp; (try with_reducible rfl)
    (try simp only [Act.put, List.setIfInBounds_toArray, List.set_cons_zero, List.set_cons_succ])
    refine wpAnyH_take (i := 3) (oi := ⟨some 26, _, _, _, _, _⟩) (v := ?_) rfl (by kernel_rfl) (by kernel_rfl) (by kernel_rfl) (fun _ _ _ h => h) (Or.inl ⟨by rfl, ?_⟩) (by assumption) ?_
    rotate_left
    ·intro wq hSw; (try dsimp only at hSw); go_simp; (try with_reducible rfl)
    (try simp only [Act.put, List.setIfInBounds_toArray, List.set_cons_zero, List.set_cons_succ])
    refine wpAnyH_take (i := 4) (oi := ⟨some 27, _, _, _, _, _⟩) (v := ?_) rfl (by kernel_rfl) (by kernel_rfl) (by kernel_rfl) (fun _ _ _ h => h) (Or.inl ⟨by rfl, ?_⟩) (by assumption) ?_
    rotate_left
    ·intro wq hSw; (try dsimp only at hSw); go_simp; (try with_reducible rfl)
    (try simp only [Act.put, List.setIfInBounds_toArray, List.set_cons_zero, List.set_cons_succ])
    refine wpAnyH_take (i := 5) (oi := ⟨some 28, _, _, _, _, _⟩) (v := ?_) rfl (by kernel_rfl) (by kernel_rfl) (by kernel_rfl) (fun _ _ _ h => h) (Or.inl ⟨by rfl, ?_⟩) (by assumption) ?_
    rotate_left
    ·intro wq hSw; (try dsimp only at hSw); go_simp; (try with_reducible rfl)
    (try simp only [Act.put, List.setIfInBounds_toArray, List.set_cons_zero, List.set_cons_succ])
    refine wpAnyH_take (i := 6) (oi := ⟨some 29, _, _, _, _, _⟩) (v := ?_) rfl (by kernel_rfl) (by kernel_rfl) (by kernel_rfl) (fun _ _ _ h => h) (Or.inl ⟨by rfl, ?_⟩) (by assumption) ?_
    rotate_left
    ·intro wq hSw; (try dsimp only at hSw); go_simp; (try with_reducible rfl)
    (try simp only [Act.put, List.setIfInBounds_toArray, List.set_cons_zero, List.set_cons_succ])
    refine wpAnyH_ready (rs := [0]) (by kernel_rfl) (by simp) ?_
    refine AllReadyH.cons (o := ⟨some 23, _, _, _, _, _⟩) rfl (fun K hK => ?_) AllReadyH.nil
    have i0 := qW.out.c0
    have i1 := qW.out.c1
    go_simp
    refine hK.out _ _ ?_ ?_
    ·(try dsimp only); exact ck5 xW.out g1.out g2.out hbl.out kW.out
    clear hK K hHeld; intro hHeld
    (try simp only [Act.put, List.setIfInBounds_toArray, List.set_cons_zero, List.set_cons_succ])
    refine wpAnyH_ready (rs := [7]) (by kernel_rfl) (by simp) ?_
    refine AllReadyH.cons (o := ⟨some 30, _, _, _, _, _⟩) rfl (fun K hK => ?_) AllReadyH.nil
    go_simp
    refine Calls.mono (radd2_n (w := wr.drew) hsW.out.zm (hz3.out.below kW.out) (by omega) (by omega)) ?_
    rintro e wN ⟨sN, aN, lN, cN, rfl, hN, kN, hlN⟩
    have kN1 := hide (grow_step kN kW.out)
    have xN := hide (xW.out.below kN)
    have yN := hide (yW.out.below kN)
    have qN := hide (qW.out.below kN)
    replace hN := hide hN
    clear kN
    (try go_wp2_with fail)
    refine hK.out _ _ ?_ ?_
    ·(try dsimp only); exact ck5 xN.out g1.out g2.out hbl.out kN1.out
    clear hK K hHeld; intro hHeld
    (try simp only [Act.put, List.setIfInBounds_toArray, List.set_cons_zero, List.set_cons_succ])
    refine wpAnyH_ready (rs := [8]) (by kernel_rfl) (by simp) ?_
    refine AllReadyH.cons (o := ⟨none, _, _, _, _, _⟩) rfl (fun K hK => ?_) AllReadyH.nil
    have j0 := qN.out.c0
    have j1 := qN.out.c1
    have j2 := qN.out.f 0
    have j3 := qN.out.f 1
    have gq := zb_set wN u (.bool sN) (.slice aN lN cN)
    have x5 := hide (xN.out.grown gq (by have := hpr.out; omega))
    have y5 := hide (yN.out.grown gq (by have := hpr.out; omega))
    have q5 := hide (zb_fin qN.out sN aN lN cN)
    have z5 := hide (hN.out.grownU gq (zb_noU qN.out))
    have k5 := hide (below_grown kN1.out gq (by have := hpr.out; have := hp.out; omega))
    clear gq
    go_simp
    refine hK.out _ _ ?_ ?_
    ·(try dsimp only); exact ck5 x5.out g1.out g2.out hbl.out k5.out
    clear hK K hHeld; intro hHeld
    (try simp only [Act.put, List.setIfInBounds_toArray, List.set_cons_zero, List.set_cons_succ])
    refine wpAnyH_done (by kernel_rfl) ?_ _
    have hs5 : Hid (Zn ((wN.setCell ⟨u, 0, none⟩ (.bool sN)).setCell ⟨u, 1, none⟩ (.slice aN lN cN)) sN aN lN cN (csum (ps.take (t + 1)) pv)) := (by rw [hps.out, csum_snoc, if_pos rfl]; exact z5)
    clear hHeld i0 i1 j0 j1 j2 j3
    go_wp2_with fail
    exact ⟨⟨t + 1, sN, aN, lN, cN, by omega, by go_num, x5, y5, q5, hs5, by omega, k5⟩, by simp [intOf]; omega⟩
   ·have hs5 : Hid (Zn wr s1 a1 l1 c1 (csum (ps.take (t + 1)) v)) := (by rw [hps.out, csum_snoc, if_neg hvv, Int.add_zero]; exact hs)
    go_wp2_with fail
    exact ⟨⟨t + 1, s1, a1, l1, c1, by omega, by go_num, hx, hy, hq, hs5, by omega, kr⟩, by simp [intOf]; omega⟩
  ·obtain rfl : t = n := by omega
   have i0 := hq.out.c0
   have i1 := hq.out.c1
   go_wp2_with fail
   refine (rnorm_n hs.out.zm (by omega)).mono ?_
   rintro e w2 ⟨s2, a2, l2, c2, rfl, hz2, k2, hl2⟩
   have y2 := hy.out.below k2
   have j0 := y2.c0
   have j1 := y2.c1
   have j2 := y2.f 0
   have j3 := y2.f 1
   have hzf := hide (zb_zn y2 hz2 s2 a2 l2 c2)
   have kf := hide (below_grown (grow_step k2 kr.out) (zb_set w2 r (.bool s2) (.slice a2 l2 c2)) (by have := hpr.out; have := hp.out; omega))
   clear k2 i0 i1
   go_wp2
   refine bodyPost_ret (results_cell_row rfl _ _ r 25 _ (0, 0) _ rfl (zb_fin y2 s2 a2 l2 c2) Try.underlying25 rfl (by kernel_rfl)) rfl ?_
   rw [List.take_of_length_le (Nat.le_of_eq hn)] at hzf
   exact ⟨s2, a2, l2, c2, by simp, hzf.out, by omega, kf.out⟩

theorem row_slice {w : World} {base : Nat} {e : TypeId} {size : Nat} {v : Value} {n : Nat} {xs : List Value} (h : w.ownsRow base e size v n xs) : ∃ ad cp, v = .slice ad n cp := by
 rcases h.2 with ⟨rfl, rfl⟩ | ⟨g, cap, cur, rfl, _⟩
 ·exact ⟨_, _, rfl⟩
 ·exact ⟨_, _, rfl⟩
/-- append of one part to a row of one's own -/
theorem append_one {w0 w : World} {v : Value} {k : Nat} {rs : List Raw} (hb : Below w0.heap.size w0 w) (hown : w.ownsRow w0.heap.size 62 3 v k (flat rs)) (x : Raw) (ad : Addr) (ha : ∀ j u, (x.enc)[j]? = some u → w.cell? (ad.add j) = some u) (hk : k + 1 ≤ 1073741824) (ty : TypeId) :
  ∃ v' w', (Builtin.append_ #[22, 22] ty #[v, .slice (some ad) 1 1]).run Try.prog w = .ok v' w' ∧ Below w0.heap.size w0 w' ∧ w'.ownsRow w0.heap.size 62 3 v' (k + 1) (flat (rs ++ [x])) := by
 obtain ⟨i0, hi, hz0, hz1, hz2⟩ := info_parts infoP
 obtain ⟨v', w', hr, hrow, hgr, -⟩ := run_append_own (P := Try.prog) w w0.heap.size 22 ty 62 i0 _ 3 40 Try.underlying22 hi hz0 hz1 hz2 rfl (by decide) v k _ hown ad 1 1 x.enc rfl ha (v3_one _ _ _ _ _) (by unfold maxLen; omega) (by omega) hb.size
 exact ⟨v', w', hr, hb.grown hgr hb.size (fun k e => (hown.lt k e).1), by rw [flat_append, show flat [x] = x.enc by simp [flat]]; exact hrow⟩
theorem wo_snoc (v : Int) (ps : List (Int × Int)) (p : Int × Int) : wo v (ps ++ [p]) = if p.1 = v then wo v ps else wo v ps ++ [p] := by
 unfold wo
 rw [List.filter_append]
 by_cases h : p.1 = v <;> simp [h]

set_option maxRecDepth 100000 in
set_option maxHeartbeats 1600000 in
theorem rwithout5_n {w : World} {ad : Option Addr} {n cp : Nat} {s : Bool} {a : Option Addr} {l c : Nat} {ps : List (Int × Int)} {k : Int} {B : Nat} {v : Int} (hP : Pr w ad n ps B) (hz : Zm w s a l c k) (hl : l ≤ B) (hB : B + n ≤ 268435456) :
  Calls Try.prog 32 #[.agg #[.slice ad n cp, .bool s, .slice a l c], .int .i64 v] w fun e w' => ∃ ad' n' cp' s' a' l' c', e = .returned (.agg #[.slice ad' n' cp', .bool s', .slice a' l' c']) ∧ Pn w' ad' n' (nz (lays [] (wo v ps))) (B + n + 1) ∧ Zn w' s' a' l' c' k ∧ l' ≤ B + n + 1 ∧ n' ≤ n ∧ Below w.heap.size w w' := by
 obtain ⟨hn, hP⟩ := hP
 go_enter Try.func32, Try.ntmps32
 go_wp2_with fail
 have x := (tb_new w ad n cp s a l c).below (below_alloc _ (.cells #[.slice none 0 0, .bool false, .slice none 0 0] 27))
 have y := tb_new (w.alloc (.cells #[.slice ad n cp, .bool s, .slice a l c] 27)) none 0 0 false none 0 0
 have b0 : Below w.heap.size w ((w.alloc (.cells #[.slice ad n cp, .bool s, .slice a l c] 27)).alloc (.cells #[.slice none 0 0, .bool false, .slice none 0 0] 27)) := below_alloc' (below_alloc _ _) _
 rw [show (w.alloc (.cells #[.slice ad n cp, .bool s, .slice a l c] 27)).heap.size = w.heap.size + 1 from by simp] at y
 generalize (w.alloc (.cells #[.slice ad n cp, .bool s, .slice a l c] 27)).alloc (.cells #[.slice none 0 0, .bool false, .slice none 0 0] 27) = wb at *
 replace hz := hz.below b0
 have hpr : w.heap.size < w.heap.size + 1 := by omega
 have hPb : ∀ i (h : i < ps.length), ∃ bp f, ad = some ⟨bp, f, none⟩ ∧ bp < wb.heap.size ∧ PA wb bp (f + i * 3) ps[i] B := by
  intro i h
  rcases hP with h0 | ⟨bp, f, e, h1⟩
  ·omega
  ·exact ⟨bp, f, e, (h1.below b0).1, (h1.below b0).2 i h⟩
 clear hP
 generalize hp : w.heap.size = p at *
 replace b0 : Hid (Below w.heap.size w wb) := hp ▸ b0
 replace hp := hide hp
 generalize p + 1 = r at *
 replace hpr := hide hpr
 go_loopw [5, 6] (fun v5 i wr => ∃ (t k5 : Nat) (ad5 : Option Addr) (cp5 : Nat) (rs : List Raw), t ≤ n ∧ k5 ≤ t ∧ i = .int .i64 t ∧ v5 = .slice ad5 k5 cp5 ∧ Hid (wr.ownsRow wb.heap.size 62 3 (.slice ad5 k5 cp5) k5 (flat rs)) ∧ Hid (∀ x ∈ rs, x.okm wb B) ∧ Hid (rs.map Raw.p = wo v (ps.take t)) ∧ Hid (Below wb.heap.size wb wr)) (fun _ i _ => n - (intOf i).toNat)
 case atStart => exact ⟨0, 0, none, 0, [], Nat.zero_le _, Nat.le_refl _, rfl, rfl, World.ownsRow_nil _ _ _ _, (fun x hx => absurd hx (by simp)), (show _ = _ from rfl), Below.refl _ _⟩
 case round =>
  obtain ⟨t, k5, ad5, cp5, rs, ht, hk5, rfl, rfl, hrow, hok, hmap, kr⟩ := hrel
  have u0 := (x.below kr.out).c0
  by_cases htn : t < n
  ·obtain ⟨bp, f, rfl, hbl, s3, a3, l3, c3, g0, g1, g2, hz3, hl3, hv⟩ := hPb t (by omega)
   have hps : Hid (ps.take (t + 1) = ps.take t ++ [ps[t]'(by omega)]) := List.take_succ_eq_append_getElem (l := ps) (i := t) (by omega)
   have m0 := (kr.out.cell (p := ⟨bp, f + t * 3, none⟩) hbl).trans g0
   have m1 := (kr.out.cell (p := ⟨bp, f + t * 3 + 1, none⟩) hbl).trans g1
   have m2 := (kr.out.cell (p := ⟨bp, f + t * 3 + 2, none⟩) hbl).trans g2
   clear hPb
   generalize ps[t]'(by omega) = pp at *
   obtain ⟨pv, pz⟩ := pp
   dsimp only at *
   replace hz3 := hide hz3
   clear g0 g1 g2
   by_cases hvv : pv = v
   ·have hmap5 : Hid (rs.map Raw.p = wo v (ps.take (t + 1))) := (show _ = _ by rw [hps.out, wo_snoc, if_pos hvv]; exact hmap.out)
    subst hvv
    go_wp2_with fail
    exact ⟨⟨t + 1, k5, ad5, cp5, rs, by omega, by omega, by go_num, rfl, hrow, hok, hmap5, kr⟩, by simp [intOf]; omega⟩
   ·have kz := below_alloc wr (.cells #[.int .i64 pv, .bool s3, .slice a3 l3 c3] 62)
    have happ := hide (append_one (grow_step kz kr.out) (row_below hrow.out kz) ⟨pv, s3, a3, l3, c3, pz⟩ ⟨wr.heap.size, 0, none⟩ (v3_new wr pv s3 a3 l3 c3) (show k5 + 1 ≤ 1073741824 by omega))
    replace kz := hide kz
    go_wp2_with (at_builtin; refine wpList_append_run rfl _ _ 22 rfl _ _ rfl rfl _ (happ.out _) ?_; rintro v6 w6 ⟨hb6, hrow6⟩; obtain ⟨ad6, cp6, rfl⟩ := row_slice hrow6; replace hrow6 := hide hrow6; replace hb6 := hide hb6)
    have hok6 : Hid (∀ x ∈ rs ++ [⟨pv, s3, a3, l3, c3, pz⟩], x.okm wb B) := (fun x hx => by
     rcases List.mem_append.1 hx with h | h
     ·exact hok.out x h
     ·rw [List.mem_singleton.1 h]; exact ⟨hz3.out, hl3, hv⟩)
    have hmap6 : Hid ((rs ++ [(⟨pv, s3, a3, l3, c3, pz⟩ : Raw)]).map Raw.p = wo v (ps.take (t + 1))) := (show _ = _ by rw [List.map_append, hmap.out, hps.out, wo_snoc, if_neg hvv]; rfl)
    exact ⟨⟨t + 1, k5 + 1, ad6, cp6, _, by omega, by omega, by go_num, rfl, hrow6, hok6, hmap6, hb6⟩, by simp [intOf]; omega⟩
  ·obtain rfl : t = n := by omega
   obtain ⟨ad7, cp7, e7, hPr⟩ := row_pr (B := B) hrow.out (fun q hq => ⟨(hok.out q hq).1.below kr.out, (hok.out q hq).2⟩)
   cases e7
   rw [hmap.out, List.take_of_length_le (Nat.le_of_eq hn)] at hPr
   replace hPr := hide hPr
   have hzr := hide (hz.below kr.out)
   have yr := hide (y.below kr.out)
   have u1 := (x.below kr.out).c1
   have u2 := (x.below kr.out).c2
   have hbr := hide (grow_step kr.out b0.out)
   clear hrow hok hmap hPb
   go_wp2_with fail
   refine (rnorm5_w (B := B) hPr.out hzr.out hl (by omega) (by omega)).mono ?_
   rintro e w3 ⟨adN, nN, cpN, sN, aN, lN, cN, rfl, hTW, hzN, kN, hnN, hPN, -⟩
   have hlN := hTW.2.2
   have y2 := yr.out.below kN
   have v0 := y2.c0
   have v1 := y2.c1
   have v2 := y2.c2
   have v3 := y2.f 0
   have v4 := y2.f 1
   have v5 := y2.f 2
   have g := tb_set w3 r (.slice adN nN cpN) (.bool sN) (.slice aN lN cN)
   have HH := hide (And.intro (hPN.tb y2 g) (And.intro (hzN.grownU g (tb_noU y2)) (And.intro (below_grown (grow_step kN hbr.out) g (by have := hpr.out; have := hp.out; omega)) (tb_fin y2 adN nN cpN sN aN lN cN))))
   clear hTW hzN kN hPN y2 yr g hPr hbr
   go_wp2
   obtain ⟨hPf, hzf, kf, yf⟩ := HH.out
   refine bodyPost_ret (results_cell_row rfl _ _ r 27 _ (0, 0) _ rfl yf Try.underlying27 rfl (by kernel_rfl)) rfl ?_
   exact ⟨adN, nN, cpN, sN, aN, lN, cN, by simp, hPf.mono (by omega), hzf, by omega, by omega, kf⟩
end Go.Proofs.Ytagjfhipjbpoiaa

namespace Go.Proofs.Ytagjfhipjbpoiaa
open Go.RowKit Go.Sort Go.Shelf
open Tm At

set_option maxRecDepth 100000 in
set_option maxHeartbeats 6400000 in
theorem rsub5_n {w : World} {ad : Option Addr} {n cp : Nat} {s : Bool} {a : Option Addr} {l c : Nat} {ps : List (Int × Int)} {k : Int} {ad2 : Option Addr} {n2 cp2 : Nat} {s2 : Bool} {a2 : Option Addr} {l2 c2 : Nat} {qs : List (Int × Int)} {k2 : Int} {B : Nat} (hP : Pr w ad n ps B) (hz : Zm w s a l c k) (hl : l ≤ B) (hP2 : Pr w ad2 n2 qs B) (hz2 : Zm w s2 a2 l2 c2 k2) (hl2 : l2 ≤ B) (h2 : 2 ≤ B) (hn : n ≤ 1048576) (hn2 : n2 ≤ 1048576) (hB : B ≤ 4194304) :
  Calls Try.prog 28 #[.agg #[.slice ad n cp, .bool s, .slice a l c], .agg #[.slice ad2 n2 cp2, .bool s2, .slice a2 l2 c2]] w fun e w' => ∃ ad' n' cp' s' a' l' c', e = .returned (.agg #[.slice ad' n' cp', .bool s', .slice a' l' c']) ∧ Pn w' ad' n' (nz (lays [] (ps ++ scl (-1) qs))) (2 * B + n2 + 2 + 1 + (n + n2) + 1) ∧ Zn w' s' a' l' c' (k - k2) ∧ l' ≤ 2 * B + n2 + 2 + 1 + (n + n2) + 1 ∧ n' ≤ n + n2 ∧ Below w.heap.size w w' := by
 go_enter Try.func28, Try.ntmps28
 go_wp2_with fail
 have x := ((tb_new w ad n cp s a l c).below (below_alloc _ (.cells #[.slice ad2 n2 cp2, .bool s2, .slice a2 l2 c2] 27))).below (below_alloc _ (.cells #[.slice none 0 0, .bool false, .slice none 0 0] 27))
 have x2 := (tb_new (w.alloc (.cells #[.slice ad n cp, .bool s, .slice a l c] 27)) ad2 n2 cp2 s2 a2 l2 c2).below (below_alloc _ (.cells #[.slice none 0 0, .bool false, .slice none 0 0] 27))
 have y := tb_new ((w.alloc (.cells #[.slice ad n cp, .bool s, .slice a l c] 27)).alloc (.cells #[.slice ad2 n2 cp2, .bool s2, .slice a2 l2 c2] 27)) none 0 0 false none 0 0
 have b0 : Below w.heap.size w (((w.alloc (.cells #[.slice ad n cp, .bool s, .slice a l c] 27)).alloc (.cells #[.slice ad2 n2 cp2, .bool s2, .slice a2 l2 c2] 27)).alloc (.cells #[.slice none 0 0, .bool false, .slice none 0 0] 27)) := below_alloc' (below_alloc' (below_alloc _ _) _) _
 rw [show (w.alloc (.cells #[.slice ad n cp, .bool s, .slice a l c] 27)).heap.size = w.heap.size + 1 from by simp] at x2
 rw [show ((w.alloc (.cells #[.slice ad n cp, .bool s, .slice a l c] 27)).alloc (.cells #[.slice ad2 n2 cp2, .bool s2, .slice a2 l2 c2] 27)).heap.size = w.heap.size + 1 + 1 from by simp] at y
 generalize ((w.alloc (.cells #[.slice ad n cp, .bool s, .slice a l c] 27)).alloc (.cells #[.slice ad2 n2 cp2, .bool s2, .slice a2 l2 c2] 27)).alloc (.cells #[.slice none 0 0, .bool false, .slice none 0 0] 27) = wb at *
 have hpr : w.heap.size < w.heap.size + 1 + 1 := by omega
 have hpr2 : w.heap.size + 1 < w.heap.size + 1 + 1 := by omega
 replace hP := hP.below b0
 replace hz := hz.below b0
 replace hP2 := hP2.below b0
 replace hz2 := hz2.below b0
 generalize hp : w.heap.size = p at *
 replace hp := hide hp
 generalize p + 1 = p2 at *
 generalize p2 + 1 = r at *
 have hrb := Nat.le_of_lt y.lt
 go_region_held3 (fun w' => w'.cell? ⟨p, 0, none⟩ = some (.slice ad n cp) ∧ w'.cell? ⟨p, 1, none⟩ = some (.bool s) ∧ w'.cell? ⟨p, 2, none⟩ = some (.slice a l c) ∧ w'.cell? ⟨p2, 0, none⟩ = some (.slice ad2 n2 cp2) ∧ w'.cell? ⟨p2, 1, none⟩ = some (.bool s2) ∧ w'.cell? ⟨p2, 2, none⟩ = some (.slice a2 l2 c2) ∧ Below r wb w')
  ((refine tk6 x x2 hpr hpr2 ?_; first | (refine Below.mono ?_ hrb; focus ((repeat' (first | with_reducible exact Below.refl _ _ | with_reducible assumption | with_reducible refine grow_step (by with_reducible assumption) ?_ | with_reducible refine grow_drew ?_ | with_reducible refine grow_alloc ?_ _ | with_reducible refine grow_drewN ?_ _)); done)) | (refine (((Below.mono ?_ hrb).setCell (Nat.le_refl _) _).setCell (Nat.le_refl _) _).setCell (Nat.le_refl _) _; focus ((repeat' (first | with_reducible exact Below.refl _ _ | with_reducible assumption | with_reducible refine grow_step (by with_reducible assumption) ?_ | with_reducible refine grow_drew ?_ | with_reducible refine grow_alloc ?_ _ | with_reducible refine grow_drewN ?_ _)); done))))
  (first | (go_at_call 50; refine Calls.mono (rof_n (-1) (by decide) (by decide) _) ?_; rintro e wA ⟨sA, aA, lA, cA, rfl, hzA, kA, hlA⟩) | (go_at_call 29; refine Calls.mono (rscale5_g (B := B) hzA.zm (by omega) (Pr.below hP2 (by (repeat' (first | with_reducible exact Below.refl _ _ | with_reducible assumption | with_reducible refine grow_step (by with_reducible assumption) ?_ | with_reducible refine grow_drew ?_ | with_reducible refine grow_alloc ?_ _ | with_reducible refine grow_drewN ?_ _)))) (Zm.below hz2 (by (repeat' (first | with_reducible exact Below.refl _ _ | with_reducible assumption | with_reducible refine grow_step (by with_reducible assumption) ?_ | with_reducible refine grow_drew ?_ | with_reducible refine grow_alloc ?_ _ | with_reducible refine grow_drewN ?_ _)))) hl2 (by omega) (by omega)) ?_; rintro e wS ⟨ad3, n3, cp3, s3, a3, l3, c3, rfl, hPS, hzS, hlS, hnS, -, kS⟩) | (go_at_call 27; refine Calls.mono (radd5_n (B := 2 * B + n2 + 2) (Pr.mono (Pr.below hP (by (repeat' (first | with_reducible exact Below.refl _ _ | with_reducible assumption | with_reducible refine grow_step (by with_reducible assumption) ?_ | with_reducible refine grow_drew ?_ | with_reducible refine grow_alloc ?_ _ | with_reducible refine grow_drewN ?_ _)))) (by omega)) (Zm.below hz (by (repeat' (first | with_reducible exact Below.refl _ _ | with_reducible assumption | with_reducible refine grow_step (by with_reducible assumption) ?_ | with_reducible refine grow_drew ?_ | with_reducible refine grow_alloc ?_ _ | with_reducible refine grow_drewN ?_ _)))) (by omega) (Pr.mono hPS.pr (by omega)) hzS.zm (by omega) (by omega)) ?_; rintro e w2 ⟨ad', n', cp', s', a', l', c', rfl, hT, hzR, hlR, hn', hkR⟩; have kR := hkR; have kW := mid kR (show Below wb.heap.size wb _ by (repeat' (first | with_reducible exact Below.refl _ _ | with_reducible assumption | with_reducible refine grow_step (by with_reducible assumption) ?_ | with_reducible refine grow_drew ?_ | with_reducible refine grow_alloc ?_ _ | with_reducible refine grow_drewN ?_ _))); have y1' := TB.below y kW; have y' := y1'.below kR; have y0 := y'.c0; have y1 := y'.c1; have y2 := y'.c2; have y3 := y'.f 0; have y4 := y'.f 1; have y5 := y'.f 2))
 all_goals
  clear hP hP2 hz hz2
  have g := tb_set w2 r (.slice ad' n' cp') (.bool s') (.slice a' l' c')
  have hbw : Below w.heap.size w w2 := grow_step kR (grow_step kW (hp.out.symm ▸ b0))
  have HH := hide (And.intro (hT.tb y' g) (And.intro (hzR.grownU g (tb_noU y')) (And.intro (below_grown hbw g (by have := hp.out; omega)) (tb_fin y' ad' n' cp' s' a' l' c'))))
  clear g hbw kR kW hT hzR
  go_wp2
  obtain ⟨hPf, hzf, kf, yf⟩ := HH.out
  refine bodyPost_ret (results_cell_row rfl _ _ r 27 _ (0, 0) _ rfl yf Try.underlying27 rfl (by kernel_rfl)) rfl ?_
  rw [lays_congr (qs := ps ++ scl (-1) qs) (fun v => by rw [csum_append, csum_append, csum_nzl]; rfl)] at hPf
  exact ⟨ad', n', cp', s', a', l', c', by simp, hPf.mono (by omega), (show k - k2 = k + -1 * k2 by omega) ▸ hzf, by omega, by omega, kf⟩

set_option maxRecDepth 100000 in
set_option maxHeartbeats 6400000 in
theorem rput5_n {w : World} {ad : Option Addr} {n cp : Nat} {s : Bool} {a : Option Addr} {l c : Nat} {ps : List (Int × Int)} {k : Int} {ad2 : Option Addr} {n2 cp2 : Nat} {s2 : Bool} {a2 : Option Addr} {l2 c2 : Nat} {qs : List (Int × Int)} {k2 : Int} {B : Nat} {v : Int} (hP : Pr w ad n ps B) (hz : Zm w s a l c k) (hl : l ≤ B) (hP2 : Pr w ad2 n2 qs B) (hz2 : Zm w s2 a2 l2 c2 k2) (hl2 : l2 ≤ B) (h2 : 2 ≤ B) (hn : n ≤ 1048576) (hn2 : n2 ≤ 1048576) (hB : B ≤ 4194304) :
  Calls Try.prog 33 #[.agg #[.slice ad n cp, .bool s, .slice a l c], .int .i64 v, .agg #[.slice ad2 n2 cp2, .bool s2, .slice a2 l2 c2]] w fun e w' => ∃ ad' n' cp' s' a' l' c', e = .returned (.agg #[.slice ad' n' cp', .bool s', .slice a' l' c']) ∧ Pn w' ad' n' (nz (lays [] (wo v ps ++ scl (csum ps v) qs))) (2 * (B + n) + n2 + 2 + n + 1 + 1 + (n + n2) + 1) ∧ Zn w' s' a' l' c' (k + csum ps v * k2) ∧ l' ≤ 2 * (B + n) + n2 + 2 + n + 1 + 1 + (n + n2) + 1 ∧ n' ≤ n + n2 ∧ Below w.heap.size w w' := by
 go_enter Try.func33, Try.ntmps33
 go_wp2_with fail
 have x := ((tb_new w ad n cp s a l c).below (below_alloc _ (.cells #[.slice ad2 n2 cp2, .bool s2, .slice a2 l2 c2] 27))).below (below_alloc _ (.cells #[.slice none 0 0, .bool false, .slice none 0 0] 27))
 have x2 := (tb_new (w.alloc (.cells #[.slice ad n cp, .bool s, .slice a l c] 27)) ad2 n2 cp2 s2 a2 l2 c2).below (below_alloc _ (.cells #[.slice none 0 0, .bool false, .slice none 0 0] 27))
 have y := tb_new ((w.alloc (.cells #[.slice ad n cp, .bool s, .slice a l c] 27)).alloc (.cells #[.slice ad2 n2 cp2, .bool s2, .slice a2 l2 c2] 27)) none 0 0 false none 0 0
 have b0 : Below w.heap.size w (((w.alloc (.cells #[.slice ad n cp, .bool s, .slice a l c] 27)).alloc (.cells #[.slice ad2 n2 cp2, .bool s2, .slice a2 l2 c2] 27)).alloc (.cells #[.slice none 0 0, .bool false, .slice none 0 0] 27)) := below_alloc' (below_alloc' (below_alloc _ _) _) _
 rw [show (w.alloc (.cells #[.slice ad n cp, .bool s, .slice a l c] 27)).heap.size = w.heap.size + 1 from by simp] at x2
 rw [show ((w.alloc (.cells #[.slice ad n cp, .bool s, .slice a l c] 27)).alloc (.cells #[.slice ad2 n2 cp2, .bool s2, .slice a2 l2 c2] 27)).heap.size = w.heap.size + 1 + 1 from by simp] at y
 generalize ((w.alloc (.cells #[.slice ad n cp, .bool s, .slice a l c] 27)).alloc (.cells #[.slice ad2 n2 cp2, .bool s2, .slice a2 l2 c2] 27)).alloc (.cells #[.slice none 0 0, .bool false, .slice none 0 0] 27) = wb at *
 have hpr : w.heap.size < w.heap.size + 1 + 1 := by omega
 have hpr2 : w.heap.size + 1 < w.heap.size + 1 + 1 := by omega
 replace hP := hP.below b0
 replace hz := hz.below b0
 replace hP2 := hP2.below b0
 replace hz2 := hz2.below b0
 generalize hp : w.heap.size = p at *
 replace hp := hide hp
 generalize p + 1 = p2 at *
 generalize p2 + 1 = r at *
 have hrb := Nat.le_of_lt y.lt
 go_region_held3 (fun w' => w'.cell? ⟨p, 0, none⟩ = some (.slice ad n cp) ∧ w'.cell? ⟨p, 1, none⟩ = some (.bool s) ∧ w'.cell? ⟨p, 2, none⟩ = some (.slice a l c) ∧ w'.cell? ⟨p2, 0, none⟩ = some (.slice ad2 n2 cp2) ∧ w'.cell? ⟨p2, 1, none⟩ = some (.bool s2) ∧ w'.cell? ⟨p2, 2, none⟩ = some (.slice a2 l2 c2) ∧ Below r wb w')
  ((refine tk6 x x2 hpr hpr2 ?_; first | (refine Below.mono ?_ hrb; focus ((repeat' (first | with_reducible exact Below.refl _ _ | with_reducible assumption | with_reducible refine grow_step (by with_reducible assumption) ?_ | with_reducible refine grow_drew ?_ | with_reducible refine grow_alloc ?_ _ | with_reducible refine grow_drewN ?_ _)); done)) | (refine (((Below.mono ?_ hrb).setCell (Nat.le_refl _) _).setCell (Nat.le_refl _) _).setCell (Nat.le_refl _) _; focus ((repeat' (first | with_reducible exact Below.refl _ _ | with_reducible assumption | with_reducible refine grow_step (by with_reducible assumption) ?_ | with_reducible refine grow_drew ?_ | with_reducible refine grow_alloc ?_ _ | with_reducible refine grow_drewN ?_ _)); done))))
  (first | (go_at_call 31; refine Calls.mono (rcoef5_n (Pr.below hP (by (repeat' (first | with_reducible exact Below.refl _ _ | with_reducible assumption | with_reducible refine grow_step (by with_reducible assumption) ?_ | with_reducible refine grow_drew ?_ | with_reducible refine grow_alloc ?_ _ | with_reducible refine grow_drewN ?_ _)))) (by omega)) ?_; rintro e wA ⟨sA, aA, lA, cA, rfl, hzA, hlA, kA⟩) | (go_at_call 29; refine Calls.mono (rscale5_g (B := B + n) (Zm.below hzA.zm (by (repeat' (first | with_reducible exact Below.refl _ _ | with_reducible assumption | with_reducible refine grow_step (by with_reducible assumption) ?_ | with_reducible refine grow_drew ?_ | with_reducible refine grow_alloc ?_ _ | with_reducible refine grow_drewN ?_ _)))) (by omega) (Pr.mono (Pr.below hP2 (by (repeat' (first | with_reducible exact Below.refl _ _ | with_reducible assumption | with_reducible refine grow_step (by with_reducible assumption) ?_ | with_reducible refine grow_drew ?_ | with_reducible refine grow_alloc ?_ _ | with_reducible refine grow_drewN ?_ _)))) (by omega)) (Zm.below hz2 (by (repeat' (first | with_reducible exact Below.refl _ _ | with_reducible assumption | with_reducible refine grow_step (by with_reducible assumption) ?_ | with_reducible refine grow_drew ?_ | with_reducible refine grow_alloc ?_ _ | with_reducible refine grow_drewN ?_ _)))) (by omega) (by omega) (by omega)) ?_; rintro e wS ⟨ad3, n3, cp3, s3, a3, l3, c3, rfl, hPS, hzS, hlS, hnS, -, kS⟩) | (go_at_call 32; refine Calls.mono (rwithout5_n (Pr.below hP (by (repeat' (first | with_reducible exact Below.refl _ _ | with_reducible assumption | with_reducible refine grow_step (by with_reducible assumption) ?_ | with_reducible refine grow_drew ?_ | with_reducible refine grow_alloc ?_ _ | with_reducible refine grow_drewN ?_ _)))) (Zm.below hz (by (repeat' (first | with_reducible exact Below.refl _ _ | with_reducible assumption | with_reducible refine grow_step (by with_reducible assumption) ?_ | with_reducible refine grow_drew ?_ | with_reducible refine grow_alloc ?_ _ | with_reducible refine grow_drewN ?_ _)))) hl (by omega)) ?_; rintro e wO ⟨ad4, n4, cp4, s4, a4, l4, c4, rfl, hPO, hzO, hlO, hnO, kO⟩) | (go_at_call 27; refine Calls.mono (radd5_n (B := 2 * (B + n) + n2 + 2 + n + 1) (Pr.mono (Pr.below hPO.pr (by (repeat' (first | with_reducible exact Below.refl _ _ | with_reducible assumption | with_reducible refine grow_step (by with_reducible assumption) ?_ | with_reducible refine grow_drew ?_ | with_reducible refine grow_alloc ?_ _ | with_reducible refine grow_drewN ?_ _)))) (by omega)) (Zm.below hzO.zm (by (repeat' (first | with_reducible exact Below.refl _ _ | with_reducible assumption | with_reducible refine grow_step (by with_reducible assumption) ?_ | with_reducible refine grow_drew ?_ | with_reducible refine grow_alloc ?_ _ | with_reducible refine grow_drewN ?_ _)))) (by omega) (Pr.mono (Pr.below hPS.pr (by (repeat' (first | with_reducible exact Below.refl _ _ | with_reducible assumption | with_reducible refine grow_step (by with_reducible assumption) ?_ | with_reducible refine grow_drew ?_ | with_reducible refine grow_alloc ?_ _ | with_reducible refine grow_drewN ?_ _)))) (by omega)) (Zm.below hzS.zm (by (repeat' (first | with_reducible exact Below.refl _ _ | with_reducible assumption | with_reducible refine grow_step (by with_reducible assumption) ?_ | with_reducible refine grow_drew ?_ | with_reducible refine grow_alloc ?_ _ | with_reducible refine grow_drewN ?_ _)))) (by omega) (by omega)) ?_; rintro e w2 ⟨ad', n', cp', s', a', l', c', rfl, hT, hzR, hlR, hn', hkR⟩; have kR := hkR; have kW := mid kR (show Below wb.heap.size wb _ by (repeat' (first | with_reducible exact Below.refl _ _ | with_reducible assumption | with_reducible refine grow_step (by with_reducible assumption) ?_ | with_reducible refine grow_drew ?_ | with_reducible refine grow_alloc ?_ _ | with_reducible refine grow_drewN ?_ _))); have y1' := TB.below y kW; have y' := y1'.below kR; have y0 := y'.c0; have y1 := y'.c1; have y2 := y'.c2; have y3 := y'.f 0; have y4 := y'.f 1; have y5 := y'.f 2))
 all_goals
  clear hP hP2 hz hz2
  have g := tb_set w2 r (.slice ad' n' cp') (.bool s') (.slice a' l' c')
  have hbw : Below w.heap.size w w2 := grow_step kR (grow_step kW (hp.out.symm ▸ b0))
  have HH := hide (And.intro (hT.tb y' g) (And.intro (hzR.grownU g (tb_noU y')) (And.intro (below_grown hbw g (by have := hp.out; omega)) (tb_fin y' ad' n' cp' s' a' l' c'))))
  clear g hbw kR kW hT hzR
  go_wp2
  obtain ⟨hPf, hzf, kf, yf⟩ := HH.out
  refine bodyPost_ret (results_cell_row rfl _ _ r 27 _ (0, 0) _ rfl yf Try.underlying27 rfl (by kernel_rfl)) rfl ?_
  rw [lays_congr (qs := wo v ps ++ scl (csum ps v) qs) (fun u => by rw [csum_append, csum_append, csum_nzl, csum_nzl]; rfl)] at hPf
  exact ⟨ad', n', cp', s', a', l', c', by simp, hPf.mono (by omega), hzf, by omega, by omega, kf⟩
end Go.Proofs.Ytagjfhipjbpoiaa

namespace Go.Proofs.Ytagjfhipjbpoiaa
open Go.RowKit Go.Sort Go.Shelf
open Tm

/-- an answer in a variable's block -/
def AQ (w : World) (q : Nat) (ad : Option Addr) (n cp : Nat) (s : Bool) (a : Option Addr) (l c : Nat) (ps : List (Int × Int)) (k : Int) (B F G : Nat) : Prop :=
 TB w q ad n cp s a l c ∧ Pn w ad n ps B ∧ Zn w s a l c k ∧ l ≤ B ∧ NG F G w ad n cp a l c
theorem AQ.below {w w' : World} {q : Nat} {ad : Option Addr} {n cp : Nat} {s : Bool} {a : Option Addr} {l c : Nat} {ps : List (Int × Int)} {k : Int} {B F G : Nat} (h : AQ w q ad n cp s a l c ps k B F G) (hb : Below w.heap.size w w') : AQ w' q ad n cp s a l c ps k B F G :=
 ⟨h.1.below hb, h.2.1.below hb, h.2.2.1.below hb, h.2.2.2.1, h.2.2.2.2.below hb⟩
theorem TB.keep {F G : Nat} {w w' : World} {q : Nat} {ad : Option Addr} {n cp : Nat} {s : Bool} {a : Option Addr} {l c : Nat} (h : TB w q ad n cp s a l c) (hk : Keep F G w w') (hq : ¬ (F ≤ q ∧ q < G)) : TB w' q ad n cp s a l c := (hk.block q h.lt hq).trans h
theorem keep_old {F G : Nat} {w0 w w' : World} (h : Below w0.heap.size w0 w) (hk : Keep F G w w') (hB : w0.heap.size ≤ F) : Below w0.heap.size w0 w' :=
 h.trans ⟨hk.os, hk.tape, hk.output, hk.size, fun k hlt => hk.block k (Nat.lt_of_lt_of_le hlt h.size) (by omega)⟩
/-- an answer that is to be written over -/
def OW5 (w : World) (q : Nat) (ad : Option Addr) (n cp : Nat) (s : Bool) (a : Option Addr) (l c : Nat) (F G : Nat) : Prop := TB w q ad n cp s a l c ∧ NG F G w ad n cp a l c
theorem OW5.below {w w' : World} {q : Nat} {ad : Option Addr} {n cp : Nat} {s : Bool} {a : Option Addr} {l c F G : Nat} (h : OW5 w q ad n cp s a l c F G) (hb : Below w.heap.size w w') : OW5 w' q ad n cp s a l c F G := ⟨h.1.below hb, h.2.below hb⟩
theorem OW5.keep {w w' : World} {q : Nat} {ad : Option Addr} {n cp : Nat} {s : Bool} {a : Option Addr} {l c F G F' G' : Nat} (h : OW5 w q ad n cp s a l c F G) (hk : Keep F' G' w w') (hd : G' ≤ F) (hq : G' ≤ q) : OW5 w' q ad n cp s a l c F G := ⟨h.1.keep hk (by omega), h.2.keep hk (.inr hd)⟩
theorem AQ.ow {w : World} {q : Nat} {ad : Option Addr} {n cp : Nat} {s : Bool} {a : Option Addr} {l c : Nat} {ps : List (Int × Int)} {k : Int} {B F G : Nat} (h : AQ w q ad n cp s a l c ps k B F G) : OW5 w q ad n cp s a l c F G := ⟨h.1, h.2.2.2.2⟩
end Go.Proofs.Ytagjfhipjbpoiaa

namespace Go.Proofs.Ytagjfhipjbpoiaa
open Go.RowKit Go.Sort Go.Shelf
open Tm At

theorem rk_S {W w' : World} {p0 : Nat} {ad : Option Addr} {n cp : Nat} {s : Bool} {a : Option Addr} {l c : Nat} {p1 : Nat} {ad2 : Option Addr} {n2 cp2 : Nat} {s2 : Bool} {a2 : Option Addr} {l2 c2 : Nat} {p2 : Nat} {s3 : Bool} {a3 : Option Addr} {l3 c3 : Nat} {q1 : Nat} {d1 : Option Addr} {n1' e1 : Nat} {t1 : Bool} {b1 : Option Addr} {m1 f1 : Nat} {q2 : Nat} {d2 : Option Addr} {n2' e2 : Nat} {t2 : Bool} {b2 : Option Addr} {m2 f2 : Nat} {q3 : Nat} {d3 : Option Addr} {n3' e3 : Nat} {t3 : Bool} {b3 : Option Addr} {m3 f3 : Nat} {q4 : Nat} {t4 : Bool} {b4 : Option Addr} {m4 f4 : Nat} {q5 : Nat} {d5 : Option Addr} {n5' e5 : Nat} {t5 : Bool} {b5 : Option Addr} {m5 f5 : Nat} {q6 : Nat} {d6 : Option Addr} {n6' e6 : Nat} {t6 : Bool} {b6 : Option Addr} {m6 f6 : Nat}
  (x0 : TB W p0 ad n cp s a l c) (x1 : TB W p1 ad2 n2 cp2 s2 a2 l2 c2) (x2 : ZB W p2 s3 a3 l3 c3) (y1 : TB W q1 d1 n1' e1 t1 b1 m1 f1) (y2 : TB W q2 d2 n2' e2 t2 b2 m2 f2) (y3 : TB W q3 d3 n3' e3 t3 b3 m3 f3) (y4 : ZB W q4 t4 b4 m4 f4) (y5 : TB W q5 d5 n5' e5 t5 b5 m5 f5) (y6 : TB W q6 d6 n6' e6 t6 b6 m6 f6) (k : Below W.heap.size W w') :
  w'.cell? ⟨p0, 0, none⟩ = some (.slice ad n cp) ∧ w'.cell? ⟨p0, 1, none⟩ = some (.bool s) ∧ w'.cell? ⟨p0, 2, none⟩ = some (.slice a l c) ∧ w'.cell? ⟨p1, 0, none⟩ = some (.slice ad2 n2 cp2) ∧ w'.cell? ⟨p1, 1, none⟩ = some (.bool s2) ∧ w'.cell? ⟨p1, 2, none⟩ = some (.slice a2 l2 c2) ∧ w'.cell? ⟨p2, 0, none⟩ = some (.bool s3) ∧ w'.cell? ⟨p2, 1, none⟩ = some (.slice a3 l3 c3) ∧ w'.cell? ⟨q1, 0, none⟩ = some (.slice d1 n1' e1) ∧ w'.cell? ⟨q1, 1, none⟩ = some (.bool t1) ∧ w'.cell? ⟨q1, 2, none⟩ = some (.slice b1 m1 f1) ∧ w'.cell? ⟨q2, 0, none⟩ = some (.slice d2 n2' e2) ∧ w'.cell? ⟨q2, 1, none⟩ = some (.bool t2) ∧ w'.cell? ⟨q2, 2, none⟩ = some (.slice b2 m2 f2) ∧ w'.cell? ⟨q3, 0, none⟩ = some (.slice d3 n3' e3) ∧ w'.cell? ⟨q3, 1, none⟩ = some (.bool t3) ∧ w'.cell? ⟨q3, 2, none⟩ = some (.slice b3 m3 f3) ∧ w'.cell? ⟨q4, 0, none⟩ = some (.bool t4) ∧ w'.cell? ⟨q4, 1, none⟩ = some (.slice b4 m4 f4) ∧ w'.cell? ⟨q5, 0, none⟩ = some (.slice d5 n5' e5) ∧ w'.cell? ⟨q5, 1, none⟩ = some (.bool t5) ∧ w'.cell? ⟨q5, 2, none⟩ = some (.slice b5 m5 f5) ∧ w'.cell? ⟨q6, 0, none⟩ = some (.slice d6 n6' e6) ∧ w'.cell? ⟨q6, 1, none⟩ = some (.bool t6) ∧ w'.cell? ⟨q6, 2, none⟩ = some (.slice b6 m6 f6) ∧ Below W.heap.size W w' :=
 ⟨(x0.below k).c0, (x0.below k).c1, (x0.below k).c2, (x1.below k).c0, (x1.below k).c1, (x1.below k).c2, (x2.below k).c0, (x2.below k).c1, (y1.below k).c0, (y1.below k).c1, (y1.below k).c2, (y2.below k).c0, (y2.below k).c1, (y2.below k).c2, (y3.below k).c0, (y3.below k).c1, (y3.below k).c2, (y4.below k).c0, (y4.below k).c1, (y5.below k).c0, (y5.below k).c1, (y5.below k).c2, (y6.below k).c0, (y6.below k).c1, (y6.below k).c2, k⟩

set_option maxRecDepth 100000 in
set_option maxHeartbeats 12800000 in
theorem termReckons_walk {w : World} {ad : Option Addr} {n cp : Nat} {s : Bool} {a : Option Addr} {l c : Nat} {ps : List (Int × Int)} {k : Int} {ad2 : Option Addr} {n2 cp2 : Nat} {s2 : Bool} {a2 : Option Addr} {l2 c2 : Nat} {qs : List (Int × Int)} {k2 : Int} {s3 : Bool} {a3 : Option Addr} {l3 c3 : Nat} {k3 : Int} {v : Int} {B : Nat}
  (hP : Pr w ad n ps B) (hz : Zm w s a l c k) (hl : l ≤ B) (hn : n ≤ B) (hP2 : Pr w ad2 n2 qs B) (hz2 : Zm w s2 a2 l2 c2 k2) (hl2 : l2 ≤ B) (hn2 : n2 ≤ B) (hz3 : Zm w s3 a3 l3 c3 k3) (hl3 : l3 ≤ B) (hv : I64 v) (hB : B ≤ 1048576) (hB2 : 2 ≤ B) :
  Calls Try.prog 4 #[.agg #[.slice ad n cp, .bool s, .slice a l c], .agg #[.slice ad2 n2 cp2, .bool s2, .slice a2 l2 c2], .agg #[.bool s3, .slice a3 l3 c3], .int .i64 v] w fun e w' => e = .returned (.bool true) ∧ Below w.heap.size w w' := by
 obtain ⟨X, hX⟩ := pr_px hP
 obtain ⟨Y, hY⟩ := pr_px hP2
 obtain ⟨_, ⟨xs, hr, -⟩, -⟩ := hz
 obtain ⟨_, ⟨ys, hr2, -⟩, -⟩ := hz2
 clear hP hP2
 go_enter Try.func4, Try.ntmps4
 go_wp2_with fail
 have x0 := ((tb_new w ad n cp s a l c).below (below_alloc _ (.cells #[.slice ad2 n2 cp2, .bool s2, .slice a2 l2 c2] 27))).below (below_alloc _ (.cells #[.bool s3, .slice a3 l3 c3] 25))
 have x1 := (tb_new (w.alloc (.cells #[.slice ad n cp, .bool s, .slice a l c] 27)) ad2 n2 cp2 s2 a2 l2 c2).below (below_alloc _ (.cells #[.bool s3, .slice a3 l3 c3] 25))
 have x2 := zb_new ((w.alloc (.cells #[.slice ad n cp, .bool s, .slice a l c] 27)).alloc (.cells #[.slice ad2 n2 cp2, .bool s2, .slice a2 l2 c2] 27)) s3 a3 l3 c3
 have b0 : Below w.heap.size w (((w.alloc (.cells #[.slice ad n cp, .bool s, .slice a l c] 27)).alloc (.cells #[.slice ad2 n2 cp2, .bool s2, .slice a2 l2 c2] 27)).alloc (.cells #[.bool s3, .slice a3 l3 c3] 25)) := below_alloc' (below_alloc' (below_alloc _ _) _) _
 rw [show (w.alloc (.cells #[.slice ad n cp, .bool s, .slice a l c] 27)).heap.size = w.heap.size + 1 from by simp] at x1
 rw [show ((w.alloc (.cells #[.slice ad n cp, .bool s, .slice a l c] 27)).alloc (.cells #[.slice ad2 n2 cp2, .bool s2, .slice a2 l2 c2] 27)).heap.size = w.heap.size + 1 + 1 from by simp] at x2
 generalize ((w.alloc (.cells #[.slice ad n cp, .bool s, .slice a l c] 27)).alloc (.cells #[.slice ad2 n2 cp2, .bool s2, .slice a2 l2 c2] 27)).alloc (.cells #[.bool s3, .slice a3 l3 c3] 25) = wb at *
 replace hX := hX.below b0
 replace hr := hr.below b0
 replace hY := hY.below b0
 replace hr2 := hr2.below b0
 replace hz3 := hz3.below b0
 generalize hp0 : w.heap.size = p0 at *
 replace b0 : Hid (Below w.heap.size w wb) := hp0 ▸ b0
 clear hp0
 generalize p0 + 1 = p1 at *
 generalize p1 + 1 = p2 at *
 refine (awake5 wb).mono ?_
 rintro e w1 ⟨rfl, k1⟩
 replace k1 := hide k1
 have i0 := (x0.below k1.out).c0
 have i1 := (x0.below k1.out).c1
 have i2 := (x0.below k1.out).c2
 go_wp2_with fail
 clear i0 i1 i2
 refine (lent5_n (hX.below k1.out) (hr.below k1.out) (by omega) (by omega) (by omega)).mono ?_
 rintro e w2 ⟨g1, a1, c1, rfl, hT1, hr1, k2w⟩
 have xa := tb_new w2 (some ⟨g1, 0, none⟩) n (n + 1) s a1 l c1
 have ka := below_alloc w2 (.cells #[.slice (some ⟨g1, 0, none⟩) n (n + 1), .bool s, .slice a1 l c1] 27)
 replace hT1 := hide (hT1.below ka)
 replace hr1 := hide (hr1.below ka)
 have kk := hide (grow_step ka (grow_step k2w k1.out))
 have i0 := (x1.below kk.out).c0
 have i1 := (x1.below kk.out).c1
 have i2 := (x1.below kk.out).c2
 replace xa := hide xa
 clear ka k2w k1
 go_wp2_with fail
 clear i0 i1 i2
 generalize w2.alloc (.cells #[.slice (some ⟨g1, 0, none⟩) n (n + 1), .bool s, .slice a1 l c1] 27) = wA at *
 generalize w2.heap.size = pa at *
 refine (lent5_n (hY.below kk.out) (hr2.below kk.out) (by omega) (by omega) (by omega)).mono ?_
 rintro e w3 ⟨g2, a0, c0, rfl, hT2, hr0, k3w⟩
 have xb := tb_new w3 (some ⟨g2, 0, none⟩) n2 (n2 + 1) s2 a0 l2 c0
 have ka := grow_alloc k3w (.cells #[.slice (some ⟨g2, 0, none⟩) n2 (n2 + 1), .bool s2, .slice a0 l2 c0] 27)
 have kb := below_alloc w3 (.cells #[.slice (some ⟨g2, 0, none⟩) n2 (n2 + 1), .bool s2, .slice a0 l2 c0] 27)
 replace hT1 := hide (hT1.out.below ka)
 replace hr1 := hide (hr1.out.below ka)
 replace xa := hide (xa.out.below ka)
 replace hT2 := hide (hT2.below kb)
 replace hr0 := hide (hr0.below kb)
 replace kk := hide (grow_step ka kk.out)
 replace xb := hide xb
 replace x0 := hide (x0.below kk.out)
 replace x1 := hide (x1.below kk.out)
 replace x2 := hide (x2.below kk.out)
 replace hX := hide (hX.below kk.out)
 replace hr := hide (hr.below kk.out)
 replace hY := hide (hY.below kk.out)
 replace hr2 := hide (hr2.below kk.out)
 replace hz3 := hide (hz3.below kk.out)
 replace b0 : Hid (Below w.heap.size w (w3.alloc (.cells #[.slice (some ⟨g2, 0, none⟩) n2 (n2 + 1), .bool s2, .slice a0 l2 c0] 27))) := grow_step kk.out b0.out
 clear ka kb k3w kk
 have i0 := xa.out.c0
 have i1 := xa.out.c1
 have i2 := xa.out.c2
 have i3 := xb.out.c0
 have i4 := xb.out.c1
 have i5 := xb.out.c2
 go_wp2_with fail
 clear i0 i1 i2 i3 i4 i5
 generalize w3.alloc (.cells #[.slice (some ⟨g2, 0, none⟩) n2 (n2 + 1), .bool s2, .slice a0 l2 c0] 27) = wa at *
 generalize w3.heap.size = pb at *
 have hPa := hide hT1.out.px.pr
 have hPb := hide hT2.out.px.pr
 have hza := hide (zm_rd (s := s) hr1.out)
 have hzb := hide (zm_rd (s := s2) hr0.out)
 have kA := hide (Below.refl wa.heap.size wa)

 obtain ⟨F1, hF1⟩ : ∃ F, Hid (F = wa.heap.size) := ⟨_, rfl⟩
 refine Calls.mono (Fresh.tadd_n (F := F1) (Nat.le_of_eq hF1.out) (hPa.out.below kA.out) (hza.out.below kA.out) hl (hPb.out.below kA.out) (hzb.out.below kA.out) hl2 (by omega)) ?_
 rintro e u1 ⟨d1, n1', e1, t1, b1, m1, f1, rs1, rfl, hTN, hn1, hS, hc, hNW⟩
 have kc := hTN.below
 have hpn := hTN.pn
 rw [lays_eq hS hc] at hpn
 have hzn := hTN.zn
 have hle := hTN.le
 have st := grow_alloc kc (.cells #[.slice d1 n1' e1, .bool t1, .slice b1 m1 f1] 27)
 have sa := below_alloc u1 (.cells #[.slice d1 n1' e1, .bool t1, .slice b1 m1 f1] 27)
 have hQ1 : Hid (AQ (u1.alloc (.cells #[.slice d1 n1' e1, .bool t1, .slice b1 m1 f1] 27)) u1.heap.size d1 n1' e1 t1 b1 m1 f1 (nz (lays [] (psX X ++ psX Y))) (sg s (val xs) + sg s2 (val ys)) 16777216 F1 u1.heap.size) := ⟨tb_new _ _ _ _ _ _ _ _, (hpn.mono (by omega)).below sa, hzn.below sa, by omega, (ng_of hNW).below sa⟩
 have hI1 : Hid (wa.heap.size ≤ F1 ∧ F1 ≤ u1.heap.size) := ⟨by have := hF1.out; have := kA.out.size; omega, by have := hF1.out; have := kc.size; omega⟩
 replace kA := hide (grow_step st kA.out)
 have hW' : Hid (u1.heap.size < (u1.alloc (.cells #[.slice d1 n1' e1, .bool t1, .slice b1 m1 f1] 27)).heap.size) := (show _ < _ by simp)
 have hW := hW'
 clear hW'
 clear st sa kc hle hTN hpn hzn hNW hS hc
 have i0 := (xa.out.below kA.out).c0
 have i1 := (xa.out.below kA.out).c1
 have i2 := (xa.out.below kA.out).c2
 have i3 := (xb.out.below kA.out).c0
 have i4 := (xb.out.below kA.out).c1
 have i5 := (xb.out.below kA.out).c2
 go_wp2_with fail
 clear i0 i1 i2 i3 i4 i5
 generalize u1.alloc (.cells #[.slice d1 n1' e1, .bool t1, .slice b1 m1 f1] 27) = W1 at *
 generalize u1.heap.size = q1 at *
 obtain ⟨F2, hF2⟩ : ∃ F, Hid (F = W1.heap.size) := ⟨_, rfl⟩
 refine Calls.mono (Fresh.tsub_n (F := F2) (Nat.le_of_eq hF2.out) (hPa.out.below kA.out) (hza.out.below kA.out) hl (hPb.out.below kA.out) (hzb.out.below kA.out) hl2 (by omega)) ?_
 rintro e u2 ⟨d2, n2', e2, t2, b2, m2, f2, rs2, rfl, hTN, hn2, hS, hc, hNW⟩
 have kc := hTN.below
 have hpn := hTN.pn
 rw [lays_eq hS hc] at hpn
 have hzn := hTN.zn
 have hle := hTN.le
 have st := grow_alloc kc (.cells #[.slice d2 n2' e2, .bool t2, .slice b2 m2 f2] 27)
 have sa := below_alloc u2 (.cells #[.slice d2 n2' e2, .bool t2, .slice b2 m2 f2] 27)
 have hQ2 : Hid (AQ (u2.alloc (.cells #[.slice d2 n2' e2, .bool t2, .slice b2 m2 f2] 27)) u2.heap.size d2 n2' e2 t2 b2 m2 f2 (nz (lays [] (psX X ++ scl (-1) (psX Y)))) (sg s (val xs) - sg s2 (val ys)) 16777216 F2 u2.heap.size) := ⟨tb_new _ _ _ _ _ _ _ _, (hpn.mono (by omega)).below sa, hzn.below sa, by omega, (ng_of hNW).below sa⟩
 have hI2 : Hid (wa.heap.size ≤ F2 ∧ F2 ≤ u2.heap.size ∧ q1 < F2) := ⟨by have := hF2.out; have := kA.out.size; omega, by have := hF2.out; have := kc.size; omega, by have := hF2.out; have := hW.out; omega⟩
 replace hQ1 := hide (hQ1.out.below st)
 replace kA := hide (grow_step st kA.out)
 have hW' : Hid (u2.heap.size < (u2.alloc (.cells #[.slice d2 n2' e2, .bool t2, .slice b2 m2 f2] 27)).heap.size) := (show _ < _ by simp)
 clear hW
 have hW := hW'
 clear hW'
 clear st sa kc hle hTN hpn hzn hNW hS hc
 have i0 := (x2.out.below kA.out).c0
 have i1 := (x2.out.below kA.out).c1
 have i2 := (xa.out.below kA.out).c0
 have i3 := (xa.out.below kA.out).c1
 have i4 := (xa.out.below kA.out).c2
 go_wp2_with fail
 clear i0 i1 i2 i3 i4
 generalize u2.alloc (.cells #[.slice d2 n2' e2, .bool t2, .slice b2 m2 f2] 27) = W2 at *
 generalize u2.heap.size = q2 at *
 obtain ⟨F3, hF3⟩ : ∃ F, Hid (F = W2.heap.size) := ⟨_, rfl⟩
 refine Calls.mono (Fresh.tscale_n (F := F3) (Nat.le_of_eq hF3.out) (hz3.out.below kA.out) (by omega) (hPa.out.below kA.out) (hza.out.below kA.out) hl (by omega)) ?_
 rintro e u3 ⟨d3, n3', e3, t3, b3, m3, f3, rs3, rfl, hTN, hn3, hS, hc, kc, hNW, hpn, hzn⟩
 rw [lays_eq hS hc] at hpn
 have hle := hTN.2.2
 have st := grow_alloc kc (.cells #[.slice d3 n3' e3, .bool t3, .slice b3 m3 f3] 27)
 have sa := below_alloc u3 (.cells #[.slice d3 n3' e3, .bool t3, .slice b3 m3 f3] 27)
 have hQ3 : Hid (AQ (u3.alloc (.cells #[.slice d3 n3' e3, .bool t3, .slice b3 m3 f3] 27)) u3.heap.size d3 n3' e3 t3 b3 m3 f3 (nz (lays [] (scl k3 (psX X)))) (k3 * sg s (val xs)) 16777216 F3 u3.heap.size) := ⟨tb_new _ _ _ _ _ _ _ _, (hpn.mono (by omega)).below sa, hzn.below sa, by omega, (ng_of hNW).below sa⟩
 have hI3 : Hid (wa.heap.size ≤ F3 ∧ F3 ≤ u3.heap.size ∧ q2 < F3) := ⟨by have := hF3.out; have := kA.out.size; omega, by have := hF3.out; have := kc.size; omega, by have := hF3.out; have := hW.out; omega⟩
 replace hQ1 := hide (hQ1.out.below st)
 replace hQ2 := hide (hQ2.out.below st)
 replace kA := hide (grow_step st kA.out)
 have hW' : Hid (u3.heap.size < (u3.alloc (.cells #[.slice d3 n3' e3, .bool t3, .slice b3 m3 f3] 27)).heap.size) := (show _ < _ by simp)
 clear hW
 have hW := hW'
 clear hW'
 clear st sa kc hle hTN hpn hzn hNW hS hc
 have i0 := (xa.out.below kA.out).c0
 have i1 := (xa.out.below kA.out).c1
 have i2 := (xa.out.below kA.out).c2
 go_wp2_with fail
 clear i0 i1 i2
 generalize u3.alloc (.cells #[.slice d3 n3' e3, .bool t3, .slice b3 m3 f3] 27) = W3 at *
 generalize u3.heap.size = q3 at *
 refine Calls.mono (tcoef_n (hPa.out.below kA.out) (by omega)) ?_
 rintro e u4 ⟨t4, b4, m4, f4, rfl, hzn, hle, kc⟩
 have st := grow_alloc kc (.cells #[.bool t4, .slice b4 m4 f4] 25)
 have sa := below_alloc u4 (.cells #[.bool t4, .slice b4 m4 f4] 25)
 have hQ4 := hide (zb_new u4 t4 b4 m4 f4)
 have hE4 := hide (hzn.below sa)
 have hL4 : m4 ≤ 4194304 := by omega
 replace hQ1 := hide (hQ1.out.below st)
 replace hQ2 := hide (hQ2.out.below st)
 replace hQ3 := hide (hQ3.out.below st)
 replace kA := hide (grow_step st kA.out)
 have hW' : Hid (q3 < (u4.alloc (.cells #[.bool t4, .slice b4 m4 f4] 25)).heap.size) := (show _ < _ from Nat.lt_of_lt_of_le hW.out st.size)
 clear hW
 have hW := hW'
 clear hW'
 clear st sa kc hle hzn
 have i0 := (xa.out.below kA.out).c0
 have i1 := (xa.out.below kA.out).c1
 have i2 := (xa.out.below kA.out).c2
 go_wp2_with fail
 clear i0 i1 i2
 generalize u4.alloc (.cells #[.bool t4, .slice b4 m4 f4] 25) = W4 at *
 generalize u4.heap.size = q4 at *
 obtain ⟨F5, hF5⟩ : ∃ F, Hid (F = W4.heap.size) := ⟨_, rfl⟩
 refine Calls.mono (Fresh.twithout_n (F := F5) (Nat.le_of_eq hF5.out) (hPa.out.below kA.out) (hza.out.below kA.out) hl (by omega) hv) ?_
 rintro e u5 ⟨d5, n5', e5, t5, b5, m5, f5, rs5, rfl, hTN, hn5, hS, hc, hNW⟩
 have kc := hTN.below
 have hpn := hTN.pn
 rw [lays_eq hS hc] at hpn
 have hzn := hTN.zn
 have hle := hTN.le
 have st := grow_alloc kc (.cells #[.slice d5 n5' e5, .bool t5, .slice b5 m5 f5] 27)
 have sa := below_alloc u5 (.cells #[.slice d5 n5' e5, .bool t5, .slice b5 m5 f5] 27)
 have hQ5 : Hid (AQ (u5.alloc (.cells #[.slice d5 n5' e5, .bool t5, .slice b5 m5 f5] 27)) u5.heap.size d5 n5' e5 t5 b5 m5 f5 (nz (lays [] (wo v (psX X)))) (sg s (val xs)) 16777216 F5 u5.heap.size) := ⟨tb_new _ _ _ _ _ _ _ _, (hpn.mono (by omega)).below sa, hzn.below sa, by omega, (ng_of hNW).below sa⟩
 have hI5 : Hid (wa.heap.size ≤ F5 ∧ F5 ≤ u5.heap.size ∧ q3 < F5) := ⟨by have := hF5.out; have := kA.out.size; omega, by have := hF5.out; have := kc.size; omega, by have := hF5.out; have := hW.out; omega⟩
 replace hQ1 := hide (hQ1.out.below st)
 replace hQ2 := hide (hQ2.out.below st)
 replace hQ3 := hide (hQ3.out.below st)
 replace hQ4 := hide (hQ4.out.below st)
 replace hE4 := hide (hE4.out.below st)
 replace kA := hide (grow_step st kA.out)
 have hW' : Hid (u5.heap.size < (u5.alloc (.cells #[.slice d5 n5' e5, .bool t5, .slice b5 m5 f5] 27)).heap.size) := (show _ < _ by simp)
 clear hW
 have hW := hW'
 clear hW'
 clear st sa kc hle hTN hpn hzn hNW hS hc
 have i0 := (xa.out.below kA.out).c0
 have i1 := (xa.out.below kA.out).c1
 have i2 := (xa.out.below kA.out).c2
 have i3 := (xb.out.below kA.out).c0
 have i4 := (xb.out.below kA.out).c1
 have i5 := (xb.out.below kA.out).c2
 go_wp2_with fail
 clear i0 i1 i2 i3 i4 i5
 generalize u5.alloc (.cells #[.slice d5 n5' e5, .bool t5, .slice b5 m5 f5] 27) = W5 at *
 generalize u5.heap.size = q5 at *
 obtain ⟨F6, hF6⟩ : ∃ F, Hid (F = W5.heap.size) := ⟨_, rfl⟩
 refine Calls.mono (Fresh.tput_n (F := F6) hv (Nat.le_of_eq hF6.out) (hPa.out.below kA.out) (hza.out.below kA.out) hl (hPb.out.below kA.out) (hzb.out.below kA.out) hl2 (by omega)) ?_
 rintro e u6 ⟨d6, n6', e6, t6, b6, m6, f6, rs6, rfl, hTN, hn6, hS, hc, hNW⟩
 have kc := hTN.below
 have hpn := hTN.pn
 rw [lays_eq hS hc] at hpn
 have hzn := hTN.zn
 have hle := hTN.le
 have st := grow_alloc kc (.cells #[.slice d6 n6' e6, .bool t6, .slice b6 m6 f6] 27)
 have sa := below_alloc u6 (.cells #[.slice d6 n6' e6, .bool t6, .slice b6 m6 f6] 27)
 have hQ6 : Hid (AQ (u6.alloc (.cells #[.slice d6 n6' e6, .bool t6, .slice b6 m6 f6] 27)) u6.heap.size d6 n6' e6 t6 b6 m6 f6 (nz (lays [] (wo v (psX X) ++ scl (csum (psX X) v) (psX Y)))) (sg s (val xs) + csum (psX X) v * sg s2 (val ys)) 16777216 F6 u6.heap.size) := ⟨tb_new _ _ _ _ _ _ _ _, (hpn.mono (by omega)).below sa, hzn.below sa, by omega, (ng_of hNW).below sa⟩
 have hI6 : Hid (wa.heap.size ≤ F6 ∧ F6 ≤ u6.heap.size ∧ q5 < F6) := ⟨by have := hF6.out; have := kA.out.size; omega, by have := hF6.out; have := kc.size; omega, by have := hF6.out; have := hW.out; omega⟩
 replace hQ1 := hide (hQ1.out.below st)
 replace hQ2 := hide (hQ2.out.below st)
 replace hQ3 := hide (hQ3.out.below st)
 replace hQ4 := hide (hQ4.out.below st)
 replace hE4 := hide (hE4.out.below st)
 replace hQ5 := hide (hQ5.out.below st)
 replace kA := hide (grow_step st kA.out)
 have hW' : Hid (u6.heap.size < (u6.alloc (.cells #[.slice d6 n6' e6, .bool t6, .slice b6 m6 f6] 27)).heap.size) := (show _ < _ by simp)
 clear hW
 have hW := hW'
 clear hW'
 clear st sa kc hle hTN hpn hzn hNW hS hc
 go_wp2_with fail
 generalize u6.alloc (.cells #[.slice d6 n6' e6, .bool t6, .slice b6 m6 f6] 27) = W6 at *
 generalize u6.heap.size = q6 at *
 have x0' := x0.out.below kA.out
 have x1' := x1.out.below kA.out
 have x2' := x2.out.below kA.out
 have y1 := hQ1.out.1
 have y2 := hQ2.out.1
 have y3 := hQ3.out.1
 have y4 := hQ4.out
 have y5 := hQ5.out.1
 have y6 := hQ6.out.1
 have hPt := hX.out.pr.below kA.out
 have hzt := (zm_rd (s := s) hr.out).below kA.out
 have hPu := hY.out.pr.below kA.out
 have hzu := (zm_rd (s := s2) hr2.out).below kA.out
 have hzk := hz3.out.below kA.out
 have hp1 := hQ1.out.2.1
 have hz1' := hQ1.out.2.2.1
 have hm1 := hQ1.out.2.2.2.1
 have hp2 := hQ2.out.2.1
 have hz2' := hQ2.out.2.2.1
 have hm2 := hQ2.out.2.2.2.1
 have hp3 := hQ3.out.2.1
 have hz3' := hQ3.out.2.2.1
 have hm3 := hQ3.out.2.2.2.1
 have hp5 := hQ5.out.2.1
 have hz5' := hQ5.out.2.2.1
 have hm5 := hQ5.out.2.2.2.1
 have hp6 := hQ6.out.2.1
 have hz6' := hQ6.out.2.2.1
 have hm6 := hQ6.out.2.2.2.1
 have hz4' := hE4.out
 have hN1 : 4 ≤ 4 := Nat.le_refl _
 go_region_held3 (fun w' => w'.cell? ⟨p0, 0, none⟩ = some (.slice ad n cp) ∧ w'.cell? ⟨p0, 1, none⟩ = some (.bool s) ∧ w'.cell? ⟨p0, 2, none⟩ = some (.slice a l c) ∧ w'.cell? ⟨p1, 0, none⟩ = some (.slice ad2 n2 cp2) ∧ w'.cell? ⟨p1, 1, none⟩ = some (.bool s2) ∧ w'.cell? ⟨p1, 2, none⟩ = some (.slice a2 l2 c2) ∧ w'.cell? ⟨p2, 0, none⟩ = some (.bool s3) ∧ w'.cell? ⟨p2, 1, none⟩ = some (.slice a3 l3 c3) ∧ w'.cell? ⟨q1, 0, none⟩ = some (.slice d1 n1' e1) ∧ w'.cell? ⟨q1, 1, none⟩ = some (.bool t1) ∧ w'.cell? ⟨q1, 2, none⟩ = some (.slice b1 m1 f1) ∧ w'.cell? ⟨q2, 0, none⟩ = some (.slice d2 n2' e2) ∧ w'.cell? ⟨q2, 1, none⟩ = some (.bool t2) ∧ w'.cell? ⟨q2, 2, none⟩ = some (.slice b2 m2 f2) ∧ w'.cell? ⟨q3, 0, none⟩ = some (.slice d3 n3' e3) ∧ w'.cell? ⟨q3, 1, none⟩ = some (.bool t3) ∧ w'.cell? ⟨q3, 2, none⟩ = some (.slice b3 m3 f3) ∧ w'.cell? ⟨q4, 0, none⟩ = some (.bool t4) ∧ w'.cell? ⟨q4, 1, none⟩ = some (.slice b4 m4 f4) ∧ w'.cell? ⟨q5, 0, none⟩ = some (.slice d5 n5' e5) ∧ w'.cell? ⟨q5, 1, none⟩ = some (.bool t5) ∧ w'.cell? ⟨q5, 2, none⟩ = some (.slice b5 m5 f5) ∧ w'.cell? ⟨q6, 0, none⟩ = some (.slice d6 n6' e6) ∧ w'.cell? ⟨q6, 1, none⟩ = some (.bool t6) ∧ w'.cell? ⟨q6, 2, none⟩ = some (.slice b6 m6 f6) ∧ Below W6.heap.size W6 w')
  ((refine rk_S x0' x1' x2' y1 y2 y3 y4 y5 y6 ?_; (repeat' (first | with_reducible exact Below.refl _ _ | with_reducible assumption | with_reducible refine grow_step (by with_reducible assumption) ?_ | with_reducible refine grow_drew ?_ | with_reducible refine grow_alloc ?_ _ | with_reducible refine grow_drewN ?_ _))))
  (first | (go_at_call 27; refine Calls.mono (radd5_n (B := B) (Pr.below hPt (by (repeat' (first | with_reducible exact Below.refl _ _ | with_reducible assumption | with_reducible refine grow_step (by with_reducible assumption) ?_ | with_reducible refine grow_drew ?_ | with_reducible refine grow_alloc ?_ _ | with_reducible refine grow_drewN ?_ _)))) (Zm.below hzt (by (repeat' (first | with_reducible exact Below.refl _ _ | with_reducible assumption | with_reducible refine grow_step (by with_reducible assumption) ?_ | with_reducible refine grow_drew ?_ | with_reducible refine grow_alloc ?_ _ | with_reducible refine grow_drewN ?_ _)))) hl (Pr.below hPu (by (repeat' (first | with_reducible exact Below.refl _ _ | with_reducible assumption | with_reducible refine grow_step (by with_reducible assumption) ?_ | with_reducible refine grow_drew ?_ | with_reducible refine grow_alloc ?_ _ | with_reducible refine grow_drewN ?_ _)))) (Zm.below hzu (by (repeat' (first | with_reducible exact Below.refl _ _ | with_reducible assumption | with_reducible refine grow_step (by with_reducible assumption) ?_ | with_reducible refine grow_drew ?_ | with_reducible refine grow_alloc ?_ _ | with_reducible refine grow_drewN ?_ _)))) hl2 (by omega)) ?_; rintro e wR1 ⟨adr1, nr1, cpr1, sr1, ar1, lr1, cr1, rfl, hpr1, hzr1, hlr1, hnr1, kr1⟩) | (go_at_call 16; refine Calls.mono (same5_t (B := 16777216) (std_lays (psX X ++ psX Y)) (Pn.below hp1 (by (repeat' (first | with_reducible exact Below.refl _ _ | with_reducible assumption | with_reducible refine grow_step (by with_reducible assumption) ?_ | with_reducible refine grow_drew ?_ | with_reducible refine grow_alloc ?_ _ | with_reducible refine grow_drewN ?_ _)))) (Zn.below hz1' (by (repeat' (first | with_reducible exact Below.refl _ _ | with_reducible assumption | with_reducible refine grow_step (by with_reducible assumption) ?_ | with_reducible refine grow_drew ?_ | with_reducible refine grow_alloc ?_ _ | with_reducible refine grow_drewN ?_ _)))) hm1 (Pn.mono hpr1 (by omega)) hzr1 (by omega) (by omega) (by omega)) ?_; rintro e wS1 ⟨rfl, kS1⟩) | (go_at_call 28; refine Calls.mono (rsub5_n (B := B) (Pr.below hPt (by (repeat' (first | with_reducible exact Below.refl _ _ | with_reducible assumption | with_reducible refine grow_step (by with_reducible assumption) ?_ | with_reducible refine grow_drew ?_ | with_reducible refine grow_alloc ?_ _ | with_reducible refine grow_drewN ?_ _)))) (Zm.below hzt (by (repeat' (first | with_reducible exact Below.refl _ _ | with_reducible assumption | with_reducible refine grow_step (by with_reducible assumption) ?_ | with_reducible refine grow_drew ?_ | with_reducible refine grow_alloc ?_ _ | with_reducible refine grow_drewN ?_ _)))) hl (Pr.below hPu (by (repeat' (first | with_reducible exact Below.refl _ _ | with_reducible assumption | with_reducible refine grow_step (by with_reducible assumption) ?_ | with_reducible refine grow_drew ?_ | with_reducible refine grow_alloc ?_ _ | with_reducible refine grow_drewN ?_ _)))) (Zm.below hzu (by (repeat' (first | with_reducible exact Below.refl _ _ | with_reducible assumption | with_reducible refine grow_step (by with_reducible assumption) ?_ | with_reducible refine grow_drew ?_ | with_reducible refine grow_alloc ?_ _ | with_reducible refine grow_drewN ?_ _)))) hl2 hB2 (by omega) (by omega) (by omega)) ?_; rintro e wR2 ⟨adr2, nr2, cpr2, sr2, ar2, lr2, cr2, rfl, hpr2, hzr2, hlr2, hnr2, kr2⟩) | (go_at_call 16; refine Calls.mono (same5_t (B := 16777216) (std_lays (psX X ++ scl (-1) (psX Y))) (Pn.below hp2 (by (repeat' (first | with_reducible exact Below.refl _ _ | with_reducible assumption | with_reducible refine grow_step (by with_reducible assumption) ?_ | with_reducible refine grow_drew ?_ | with_reducible refine grow_alloc ?_ _ | with_reducible refine grow_drewN ?_ _)))) (Zn.below hz2' (by (repeat' (first | with_reducible exact Below.refl _ _ | with_reducible assumption | with_reducible refine grow_step (by with_reducible assumption) ?_ | with_reducible refine grow_drew ?_ | with_reducible refine grow_alloc ?_ _ | with_reducible refine grow_drewN ?_ _)))) hm2 (Pn.mono hpr2 (by omega)) hzr2 (by omega) (by omega) (by omega)) ?_; rintro e wS2 ⟨rfl, kS2⟩) | (go_at_call 29; refine Calls.mono (rscale5_g (B := B) (Zm.below hzk (by (repeat' (first | with_reducible exact Below.refl _ _ | with_reducible assumption | with_reducible refine grow_step (by with_reducible assumption) ?_ | with_reducible refine grow_drew ?_ | with_reducible refine grow_alloc ?_ _ | with_reducible refine grow_drewN ?_ _)))) hl3 (Pr.below hPt (by (repeat' (first | with_reducible exact Below.refl _ _ | with_reducible assumption | with_reducible refine grow_step (by with_reducible assumption) ?_ | with_reducible refine grow_drew ?_ | with_reducible refine grow_alloc ?_ _ | with_reducible refine grow_drewN ?_ _)))) (Zm.below hzt (by (repeat' (first | with_reducible exact Below.refl _ _ | with_reducible assumption | with_reducible refine grow_step (by with_reducible assumption) ?_ | with_reducible refine grow_drew ?_ | with_reducible refine grow_alloc ?_ _ | with_reducible refine grow_drewN ?_ _)))) hl (by omega) (by omega)) ?_; rintro e wR3 ⟨adr3, nr3, cpr3, sr3, ar3, lr3, cr3, rfl, hpr3, hzr3, hlr3, hnr3, -, kr3⟩) | (go_at_call 16; refine Calls.mono (same5_t (B := 16777216) (std_lays (scl k3 (psX X))) (Pn.below hp3 (by (repeat' (first | with_reducible exact Below.refl _ _ | with_reducible assumption | with_reducible refine grow_step (by with_reducible assumption) ?_ | with_reducible refine grow_drew ?_ | with_reducible refine grow_alloc ?_ _ | with_reducible refine grow_drewN ?_ _)))) (Zn.below hz3' (by (repeat' (first | with_reducible exact Below.refl _ _ | with_reducible assumption | with_reducible refine grow_step (by with_reducible assumption) ?_ | with_reducible refine grow_drew ?_ | with_reducible refine grow_alloc ?_ _ | with_reducible refine grow_drewN ?_ _)))) hm3 (Pn.mono hpr3 (by omega)) hzr3 (by omega) (by omega) (by omega)) ?_; rintro e wS3 ⟨rfl, kS3⟩) | (go_at_call 31; refine Calls.mono (rcoef5_n (Pr.below hPt (by (repeat' (first | with_reducible exact Below.refl _ _ | with_reducible assumption | with_reducible refine grow_step (by with_reducible assumption) ?_ | with_reducible refine grow_drew ?_ | with_reducible refine grow_alloc ?_ _ | with_reducible refine grow_drewN ?_ _)))) (by omega)) ?_; rintro e wR4 ⟨sr4, ar4, lr4, cr4, rfl, hzr4, hlr4, kr4⟩) | (go_at_call 30; refine Calls.mono (ris_t (Zn.below hz4' (by (repeat' (first | with_reducible exact Below.refl _ _ | with_reducible assumption | with_reducible refine grow_step (by with_reducible assumption) ?_ | with_reducible refine grow_drew ?_ | with_reducible refine grow_alloc ?_ _ | with_reducible refine grow_drewN ?_ _)))) hzr4.zm (by omega) (by omega) rfl) ?_; rintro e wS4 ⟨rfl, kS4⟩) | (go_at_call 32; refine Calls.mono (rwithout5_n (Pr.below hPt (by (repeat' (first | with_reducible exact Below.refl _ _ | with_reducible assumption | with_reducible refine grow_step (by with_reducible assumption) ?_ | with_reducible refine grow_drew ?_ | with_reducible refine grow_alloc ?_ _ | with_reducible refine grow_drewN ?_ _)))) (Zm.below hzt (by (repeat' (first | with_reducible exact Below.refl _ _ | with_reducible assumption | with_reducible refine grow_step (by with_reducible assumption) ?_ | with_reducible refine grow_drew ?_ | with_reducible refine grow_alloc ?_ _ | with_reducible refine grow_drewN ?_ _)))) hl (by omega)) ?_; rintro e wR5 ⟨adr5, nr5, cpr5, sr5, ar5, lr5, cr5, rfl, hpr5, hzr5, hlr5, hnr5, kr5⟩) | (go_at_call 16; refine Calls.mono (same5_t (B := 16777216) (std_lays (wo v (psX X))) (Pn.below hp5 (by (repeat' (first | with_reducible exact Below.refl _ _ | with_reducible assumption | with_reducible refine grow_step (by with_reducible assumption) ?_ | with_reducible refine grow_drew ?_ | with_reducible refine grow_alloc ?_ _ | with_reducible refine grow_drewN ?_ _)))) (Zn.below hz5' (by (repeat' (first | with_reducible exact Below.refl _ _ | with_reducible assumption | with_reducible refine grow_step (by with_reducible assumption) ?_ | with_reducible refine grow_drew ?_ | with_reducible refine grow_alloc ?_ _ | with_reducible refine grow_drewN ?_ _)))) hm5 (Pn.mono hpr5 (by omega)) hzr5 (by omega) (by omega) (by omega)) ?_; rintro e wS5 ⟨rfl, kS5⟩) | (go_at_call 33; refine Calls.mono (rput5_n (B := B) (Pr.below hPt (by (repeat' (first | with_reducible exact Below.refl _ _ | with_reducible assumption | with_reducible refine grow_step (by with_reducible assumption) ?_ | with_reducible refine grow_drew ?_ | with_reducible refine grow_alloc ?_ _ | with_reducible refine grow_drewN ?_ _)))) (Zm.below hzt (by (repeat' (first | with_reducible exact Below.refl _ _ | with_reducible assumption | with_reducible refine grow_step (by with_reducible assumption) ?_ | with_reducible refine grow_drew ?_ | with_reducible refine grow_alloc ?_ _ | with_reducible refine grow_drewN ?_ _)))) hl (Pr.below hPu (by (repeat' (first | with_reducible exact Below.refl _ _ | with_reducible assumption | with_reducible refine grow_step (by with_reducible assumption) ?_ | with_reducible refine grow_drew ?_ | with_reducible refine grow_alloc ?_ _ | with_reducible refine grow_drewN ?_ _)))) (Zm.below hzu (by (repeat' (first | with_reducible exact Below.refl _ _ | with_reducible assumption | with_reducible refine grow_step (by with_reducible assumption) ?_ | with_reducible refine grow_drew ?_ | with_reducible refine grow_alloc ?_ _ | with_reducible refine grow_drewN ?_ _)))) hl2 hB2 (by omega) (by omega) (by omega)) ?_; rintro e wR6 ⟨adr6, nr6, cpr6, sr6, ar6, lr6, cr6, rfl, hpr6, hzr6, hlr6, hnr6, kr6⟩) | (go_at_call 16; refine Calls.mono (same5_t (B := 16777216) (std_lays (wo v (psX X) ++ scl (csum (psX X) v) (psX Y))) (Pn.below hp6 (by (repeat' (first | with_reducible exact Below.refl _ _ | with_reducible assumption | with_reducible refine grow_step (by with_reducible assumption) ?_ | with_reducible refine grow_drew ?_ | with_reducible refine grow_alloc ?_ _ | with_reducible refine grow_drewN ?_ _)))) (Zn.below hz6' (by (repeat' (first | with_reducible exact Below.refl _ _ | with_reducible assumption | with_reducible refine grow_step (by with_reducible assumption) ?_ | with_reducible refine grow_drew ?_ | with_reducible refine grow_alloc ?_ _ | with_reducible refine grow_drewN ?_ _)))) hm6 (Pn.mono hpr6 (by omega)) hzr6 (by omega) (by omega) (by omega)) ?_; rintro e wS6 ⟨rfl, kS6⟩))
 all_goals
  have kf : Hid (RowKit.Below W6.heap.size W6 wS6) := (by (repeat' (first | with_reducible exact Below.refl _ _ | with_reducible assumption | (go_split_ands; with_reducible assumption) | with_reducible refine grow_step (by with_reducible assumption) ?_ | with_reducible refine grow_drew ?_ | with_reducible refine grow_alloc ?_ _ | with_reducible refine grow_drewN ?_ _)) : RowKit.Below W6.heap.size W6 wS6)
  have o1 := hide (hQ1.out.ow.below kf.out)
  have o2 := hide (hQ2.out.ow.below kf.out)
  have o3 := hide (hQ3.out.ow.below kf.out)
  have o5 := hide (hQ5.out.ow.below kf.out)
  have o6 := hide (hQ6.out.ow.below kf.out)
  have kB := hide (grow_step kf.out kA.out)
  clear kf hQ1 hQ2 hQ3 hQ4 hQ5 hQ6 hE4 kA x0' x1' x2' y1 y2 y3 y4 y5 y6 hPt hzt hPu hzu hzk
  clear hp1 hz1' hm1 hp2 hz2' hm2 hp3 hz3' hm3 hp5 hz5' hm5 hp6 hz6' hm6 hz4'
  have i0 := o1.out.1.c0
  have i1 := o1.out.1.c1
  have i2 := o1.out.1.c2
  go_wp2_with fail
  clear i0 i1 i2
  refine Calls.mono (over5_n o1.out.2) ?_
  rintro e v1 ⟨⟨_, rfl⟩, kp⟩
  replace o2 := hide (o2.out.keep kp (by have := hI2.out; have := hI3.out; have := hI5.out; have := hI6.out; omega) (by have := hI2.out; have := hI3.out; have := hI5.out; have := hI6.out; omega))
  replace o3 := hide (o3.out.keep kp (by have := hI2.out; have := hI3.out; have := hI5.out; have := hI6.out; omega) (by have := hI2.out; have := hI3.out; have := hI5.out; have := hI6.out; omega))
  replace o5 := hide (o5.out.keep kp (by have := hI2.out; have := hI3.out; have := hI5.out; have := hI6.out; omega) (by have := hI2.out; have := hI3.out; have := hI5.out; have := hI6.out; omega))
  replace o6 := hide (o6.out.keep kp (by have := hI2.out; have := hI3.out; have := hI5.out; have := hI6.out; omega) (by have := hI2.out; have := hI3.out; have := hI5.out; have := hI6.out; omega))
  replace kB := hide (keep_old kB.out kp hI1.out.1)
  clear kp o1
  have i0 := o2.out.1.c0
  have i1 := o2.out.1.c1
  have i2 := o2.out.1.c2
  go_wp2_with fail
  clear i0 i1 i2
  refine Calls.mono (over5_n o2.out.2) ?_
  rintro e v2 ⟨⟨_, rfl⟩, kp⟩
  replace o3 := hide (o3.out.keep kp (by have := hI2.out; have := hI3.out; have := hI5.out; have := hI6.out; omega) (by have := hI2.out; have := hI3.out; have := hI5.out; have := hI6.out; omega))
  replace o5 := hide (o5.out.keep kp (by have := hI2.out; have := hI3.out; have := hI5.out; have := hI6.out; omega) (by have := hI2.out; have := hI3.out; have := hI5.out; have := hI6.out; omega))
  replace o6 := hide (o6.out.keep kp (by have := hI2.out; have := hI3.out; have := hI5.out; have := hI6.out; omega) (by have := hI2.out; have := hI3.out; have := hI5.out; have := hI6.out; omega))
  replace kB := hide (keep_old kB.out kp hI2.out.1)
  clear kp o2
  have i0 := o3.out.1.c0
  have i1 := o3.out.1.c1
  have i2 := o3.out.1.c2
  go_wp2_with fail
  clear i0 i1 i2
  refine Calls.mono (over5_n o3.out.2) ?_
  rintro e v3 ⟨⟨_, rfl⟩, kp⟩
  replace o5 := hide (o5.out.keep kp (by have := hI2.out; have := hI3.out; have := hI5.out; have := hI6.out; omega) (by have := hI2.out; have := hI3.out; have := hI5.out; have := hI6.out; omega))
  replace o6 := hide (o6.out.keep kp (by have := hI2.out; have := hI3.out; have := hI5.out; have := hI6.out; omega) (by have := hI2.out; have := hI3.out; have := hI5.out; have := hI6.out; omega))
  replace kB := hide (keep_old kB.out kp hI3.out.1)
  clear kp o3
  have i0 := o5.out.1.c0
  have i1 := o5.out.1.c1
  have i2 := o5.out.1.c2
  go_wp2_with fail
  clear i0 i1 i2
  refine Calls.mono (over5_n o5.out.2) ?_
  rintro e v5 ⟨⟨_, rfl⟩, kp⟩
  replace o6 := hide (o6.out.keep kp (by have := hI2.out; have := hI3.out; have := hI5.out; have := hI6.out; omega) (by have := hI2.out; have := hI3.out; have := hI5.out; have := hI6.out; omega))
  replace kB := hide (keep_old kB.out kp hI5.out.1)
  clear kp o5
  have i0 := o6.out.1.c0
  have i1 := o6.out.1.c1
  have i2 := o6.out.1.c2
  go_wp2_with fail
  clear i0 i1 i2
  refine Calls.mono (over5_n o6.out.2) ?_
  rintro e v6 ⟨⟨_, rfl⟩, kp⟩
  replace kB := hide (keep_old kB.out kp hI6.out.1)
  clear kp o6
  have i0 := (xa.out.below kB.out).c0
  have i1 := (xa.out.below kB.out).c1
  have i2 := (xa.out.below kB.out).c2
  go_wp2_with fail
  clear i0 i1 i2
  obtain ⟨F7, hF7⟩ : ∃ F, Hid (F = v6.heap.size) := ⟨_, rfl⟩
  refine Calls.mono (Fresh.tnorm_n (F := F7) (Nat.le_of_eq hF7.out) (hPa.out.below kB.out) (hza.out.below kB.out) hl (by omega)) ?_
  rintro e v7 ⟨d7, n7', e7, t7, b7, m7, f7, rs7, rfl, hTN, -, -, -, hNW⟩
  have hI7 : Hid (wa.heap.size ≤ F7) := (show _ ≤ _ by have := hF7.out; have := kB.out.size; omega)
  replace kB := hide (grow_step hTN.below kB.out)
  replace hNW := hide (ng_of hNW)
  clear hTN
  go_wp2_with fail
  refine Calls.mono (over5_n hNW.out) ?_
  rintro e v8 ⟨⟨_, rfl⟩, kp⟩
  replace kB := hide (keep_old kB.out kp hI7.out)
  clear kp hNW
  have i0 := (xa.out.below kB.out).c0
  have i1 := (xa.out.below kB.out).c1
  have i2 := (xa.out.below kB.out).c2
  have i3 := (x0.out.below kB.out).c0
  have i4 := (x0.out.below kB.out).c1
  have i5 := (x0.out.below kB.out).c2
  go_wp2_with fail
  clear i0 i1 i2 i3 i4 i5
  refine Calls.mono (stays5_n (hT1.out.below kB.out) (hr1.out.below kB.out) (hX.out.below kB.out) (hr.out.below kB.out) (by omega) (by omega) (by omega)) ?_
  rintro e v9 ⟨rfl, k9⟩
  replace kB := hide (grow_step k9 kB.out)
  clear k9
  have i0 := (xb.out.below kB.out).c0
  have i1 := (xb.out.below kB.out).c1
  have i2 := (xb.out.below kB.out).c2
  have i3 := (x1.out.below kB.out).c0
  have i4 := (x1.out.below kB.out).c1
  have i5 := (x1.out.below kB.out).c2
  go_wp2_with fail
  clear i0 i1 i2 i3 i4 i5
  refine Calls.mono (stays5_n (hT2.out.below kB.out) (hr0.out.below kB.out) (hY.out.below kB.out) (hr2.out.below kB.out) (by omega) (by omega) (by omega)) ?_
  rintro e v10 ⟨rfl, k10⟩
  have kz := hide (grow_step (grow_step k10 kB.out) b0.out)
  clear k10
  go_wp2
  go_ret
  exact ⟨rfl, kz.out⟩
end Go.Proofs.Ytagjfhipjbpoiaa
