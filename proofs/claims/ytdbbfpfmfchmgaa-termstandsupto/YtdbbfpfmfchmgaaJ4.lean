/-
  Several texts in one: YF, YG, YH.
-/
import Derived.Test.YtdbbfpfmfchmgaaYE
import Derived.Test.YtdbbfpfmfchmgaaZ4
namespace Go.Proofs.Ytdbbfpfmfchmgaa
open Go.RowKit Go.Sort Go.Shelf
open Tm

/-- a slice of ints -/
def IV (w : World) (ad : Option Addr) (n : Nat) (xs : List Int) : Prop := xs.length = n ∧ (n = 0 ∨ ∃ g, ad = some ⟨g, 0, none⟩ ∧ g < w.heap.size ∧ ∀ i (h : i < xs.length), w.cell? ⟨g, i, none⟩ = some (.int .i64 xs[i]))
theorem IV.below {w w' : World} {ad : Option Addr} {n : Nat} {xs : List Int} (h : IV w ad n xs) (hb : Below w.heap.size w w') : IV w' ad n xs := by
  refine ⟨h.1, ?_⟩
  rcases h.2 with h2 | ⟨g, e, hg, h2⟩
  · exact .inl h2
  · exact .inr ⟨g, e, Nat.lt_of_lt_of_le hg hb.size, fun i hi => (hb.cell (p := ⟨g, i, none⟩) hg).trans (h2 i hi)⟩
theorem row_iv {w : World} {base n : Nat} {v : Value} {xs : List Int} (h : w.ownsRow base 3 1 v n (xs.map (Value.int .i64))) : ∃ ad cap, v = .slice ad n cap ∧ IV w ad n xs := by
  have hl : xs.length = n := by simpa using h.1
  rcases h.2 with ⟨rfl, rfl⟩ | ⟨g, cap, cur, rfl, _, hcur, _, _, _, htake⟩
  · exact ⟨none, 0, rfl, hl, .inl rfl⟩
  · refine ⟨_, cap, rfl, hl, .inr ⟨g, rfl, (Array.getElem?_eq_some_iff.1 hcur).1, fun i hi => ?_⟩⟩
    have e : (cur.toList.take (n * 1))[i]? = some (.int .i64 xs[i]) := by rw [htake, List.getElem?_map, List.getElem?_eq_getElem hi]; rfl
    rw [List.getElem?_take, if_pos (by omega)] at e
    exact (cell_of_row w g i _ _ (0, 0) hcur).trans (by simpa using e)
theorem infoI : (Try.prog.info? 3).map (fun i => (i.zero, i.size, i.bytes)) = some (some (.int .i64 0), 1, 8) := by kernel_rfl

theorem run_parts (ad : Option Addr) (n cp : Nat) (s : Bool) (a : Option Addr) (l c : Nat) (w : World) : (Instr.field 27 (.agg #[.slice ad n cp, .bool s, .slice a l c]) 0).run Try.prog w = .ok (.slice ad n cp) w := by
  simp [Instr.field, run_underlying Try.underlying27, asAgg, part, Try.isAgg22]

set_option maxRecDepth 100000 in
set_option maxHeartbeats 1600000 in
theorem tvars_n {w : World} {ad : Option Addr} {n cp : Nat} {s : Bool} {a : Option Addr} {l c : Nat} {ps : List (Int × Int)} {k : Int} {B : Nat} (hP : Pr w ad n ps B) (hz : Zm w s a l c k) (hl : l ≤ B) (hB : B + n ≤ 536870912) :
    Calls Try.prog 32 #[.agg #[.slice ad n cp, .bool s, .slice a l c]] w fun e w' => ∃ ad' n' cp' qs, e = .returned (.slice ad' n' cp') ∧ IV w' ad' n' (qs.map Prod.fst) ∧ n' ≤ n ∧ Std qs ∧ (∀ v, csum qs v = csum ps v) ∧ Below w.heap.size w w' := by
  go_enter Try.func32, Try.ntmps32
  go_wp2_with fail
  have b0 := below_alloc w (.cells #[.slice ad n cp, .bool s, .slice a l c] 27)
  refine (tnorm_n (hP.below b0) (hz.below b0) hl hB).mono ?_
  rintro e w1 ⟨ad1, n1, cp1, s1, a1, l1, c1, rs, rfl, hTN, hn1, hStd, hcs⟩
  have hP1 := hTN.pr
  have k1 := hide (grow_step hTN.below b0)
  obtain ⟨hn, hP1⟩ := hP1
  generalize rs.map Raw.p = qs at *
  clear b0 hTN hP hz
  obtain ⟨i0, hi, hz0, hz1, hz2⟩ := info_parts infoI
  have hfield := run_parts ad1 n1 cp1 s1 a1 l1 c1 w1
  go_wp2_with fail
  go_loopw [3, 10] (fun vv i wr => ∃ t : Nat, t ≤ n1 ∧ i = .int .i64 t ∧ wr.ownsRow w1.heap.size 3 1 vv t ((qs.take t).map fun q => .int .i64 q.1) ∧ Below w1.heap.size w1 wr) (fun _ i _ => n1 - (intOf i).toNat)
  case atStart => exact ⟨0, Nat.zero_le _, rfl, World.ownsRow_nil _ _ _ _, Below.refl _ _⟩
  case round =>
    obtain ⟨t, ht, rfl, hrow, kr⟩ := hrel
    by_cases htn : t < n1
    · rcases hP1 with h | ⟨bp, op, rfl, hP1⟩
      · omega
      · obtain ⟨s2, a2, l2, c2, e0, e1, e2, -, -, hv⟩ := (hP1.below kr).2 t (by omega)
        have hps : Hid (qs.take (t + 1) = qs.take t ++ [qs[t]]) := List.take_succ_eq_append_getElem (l := qs) (i := t) (by omega)
        generalize qs[t] = pp at *
        have ka := below_alloc wr (.cells #[.int .i64 pp.1, .bool s2, .slice a2 l2 c2] 56)
        have hbase := hide (show w1.heap.size ≤ wr.heap.size from kr.size)
        go_wp2_with (at_builtin; refine wpList_append_own_at _ rfl _ _ 43 rfl w1.heap.size 3 i0 _ 1 8 Try.underlying43 hi hz0 hz1 hz2 rfl (by decide) _ _ _ rfl ((hrow.alloc _).alloc _) ⟨wr.heap.size + 1, 0, none⟩ 1 1 [.int .i64 pp.1] rfl rfl (by simpa using cell_one_new (wr.alloc (.cells #[.int .i64 pp.1, .bool s2, .slice a2 l2 c2] 56)) (.int .i64 pp.1) 3) (by simp [Value.oneCell']) (by unfold maxLen; omega) (by omega) (by have := hbase.out; simp; omega) ?_; intro v' w4 hown' hgrow hnil hat')
        have kb := below_alloc (wr.alloc (.cells #[.int .i64 pp.1, .bool s2, .slice a2 l2 c2] 56)) (.cells #[.int .i64 pp.1] 3)
        have k4 : Below w1.heap.size w1 w4 := (grow_step kb (grow_step ka kr)).grown hgrow (grow_step kb (grow_step ka kr)).size (fun k e => (hrow.lt k e).1)
        refine ⟨⟨t + 1, by omega, by go_num, ?_, k4⟩, by simp [intOf]; omega⟩
        rw [hps.out, List.map_append]
        exact hown'
    · obtain rfl : t = n1 := by omega
      rw [List.take_of_length_le (Nat.le_of_eq hn), show (qs.map fun q => Value.int .i64 q.1) = (qs.map Prod.fst).map (Value.int .i64) by rw [List.map_map]; rfl] at hrow
      obtain ⟨ad', cp', rfl, hIV⟩ := row_iv hrow
      clear hrow
      go_wp2
      go_ret
      exact ⟨ad', t, cp', qs, rfl, hIV, hn1, hStd, hcs, grow_step kr k1.out⟩
end Go.Proofs.Ytdbbfpfmfchmgaa

namespace Go.Proofs.Ytdbbfpfmfchmgaa
open Go.RowKit Go.Sort Go.Shelf
open Tm

theorem pr_one {w : World} {b : Nat} {v : Int} {s : Bool} {a : Option Addr} {l c : Nat} {z : Int} {B : Nat} {ty : TypeId} {fz : Nat × Nat} (hb : w.heap[b]? = some (.cells #[.int .i64 v, .bool s, .slice a l c] ty fz)) (hz : Zm w s a l c z) (hl : l ≤ B) (hv : I64 v) : Pr w (some ⟨b, 0, none⟩) 1 [(v, z)] B := by
  refine ⟨rfl, .inr ⟨b, 0, rfl, (Array.getElem?_eq_some_iff.1 hb).1, fun i hi => ?_⟩⟩
  obtain rfl : i = 0 := by simp at hi; omega
  exact ⟨s, a, l, c, cell_of_row w b 0 _ _ fz hb, cell_of_row w b 1 _ _ fz hb, cell_of_row w b 2 _ _ fz hb, hz, hl, hv⟩
theorem pr_one_c {w : World} {b : Nat} {v : Int} {s : Bool} {a : Option Addr} {l c : Nat} {z : Int} {B : Nat} (hz : Zm w s a l c z) (hl : l ≤ B) (hv : I64 v) (h0 : w.cell? ⟨b, 0, none⟩ = some (.int .i64 v)) (h1 : w.cell? ⟨b, 1, none⟩ = some (.bool s)) (h2 : w.cell? ⟨b, 2, none⟩ = some (.slice a l c)) : Pr w (some ⟨b, 0, none⟩) 1 [(v, z)] B := by
  refine ⟨rfl, .inr ⟨b, 0, rfl, World.block_lt_of_cell? w ⟨b, 0, none⟩ h0, fun i hi => ?_⟩⟩
  obtain rfl : i = 0 := by simp at hi; omega
  exact ⟨s, a, l, c, h0, h1, h2, hz, hl, hv⟩
theorem cutP {A B : Prop} (h : A → B) (a : A) : B := h a
theorem zb_new1 (w : World) (o : Obj) (s : Bool) (a : Option Addr) (l c : Nat) : ZB ((w.alloc o).alloc (.cells #[.bool s, .slice a l c] 25)) (w.heap.size + 1) s a l c := by
  have := zb_new (w.alloc o) s a l c
  rwa [show (w.alloc o).heap.size = w.heap.size + 1 from by simp] at this
theorem zk1v {wb w' : World} {p l c g : Nat} {s : Bool} {a : Option Addr} {v : Value} (x : ZB wb p s a l c) (hg : g < wb.heap.size) (hv : wb.cell? ⟨g, 0, none⟩ = some v) (k : Below wb.heap.size wb w') :
    w'.cell? ⟨p, 0, none⟩ = some (.bool s) ∧ w'.cell? ⟨p, 1, none⟩ = some (.slice a l c) ∧ w'.cell? ⟨g, 0, none⟩ = some v ∧ Below wb.heap.size wb w' :=
  ⟨(x.below k).c0, (x.below k).c1, (k.cell (p := ⟨g, 0, none⟩) hg).trans hv, k⟩
theorem tkb {wb w' : World} {p : Nat} {ad : Option Addr} {n cp : Nat} {s : Bool} {a : Option Addr} {l c : Nat} (x : TB wb p ad n cp s a l c) (k : Below wb.heap.size wb w') :
    w'.cell? ⟨p, 0, none⟩ = some (.slice ad n cp) ∧ w'.cell? ⟨p, 1, none⟩ = some (.bool s) ∧ w'.cell? ⟨p, 2, none⟩ = some (.slice a l c) ∧ Below wb.heap.size wb w' :=
  ⟨(x.below k).c0, (x.below k).c1, (x.below k).c2, k⟩

set_option maxRecDepth 100000 in
set_option maxHeartbeats 6400000 in
theorem awake5 (w : World) :
    Calls Try.prog 6 #[] w fun e w' => e = .returned (.bool true) ∧ Below w.heap.size w w' := by
  have i3 : I64 3 := by unfold I64; decide
  go_enter Try.func6, Try.ntmps6
  go_wp2_with fail
  refine (zof_n 2 (by decide) (by decide) w).mono ?_
  rintro e w1 ⟨s1, a1, l1, c1, rfl, z1, k1, b1⟩
  go_wp2_with fail
  refine (tvar_n (B := 2) i3 (Nat.le_refl _)).mono ?_
  rintro e w2 ⟨ad2, cp2, rs2, rfl, hT2, hr2⟩
  have k2 := hT2.below
  have t2 := hT2.tw
  rw [hr2] at t2
  go_wp2_with fail
  refine (tscale_n (z1.below k2).zm (by omega) t2.1 t2.2.1 t2.2.2 (by decide)).mono ?_
  rintro e w3 ⟨ad3, n3, cp3, s3, a3, l3, c3, qs3, rfl, t3, hn3, hS3, hc3, k3⟩
  go_wp2_with fail
  refine (zof_n 5 (by decide) (by decide) w3).mono ?_
  rintro e w4 ⟨s4, a4, l4, c4, rfl, z4, k4, b4⟩
  go_wp2_with fail
  refine (tconst_n (B := 8) z4.zm (by omega) (by decide)).mono ?_
  rintro e w5 ⟨s5, a5, l5, c5, rfl, hT5⟩
  have k5 := hT5.below
  have t5 := hT5.tw
  have t3' := ((t3.below k4).below k5).mono (B' := 8) (by omega)
  go_wp2_with fail
  refine (tsub_n t3'.1 t3'.2.1 t3'.2.2 t5.1 t5.2.1 t5.2.2 (by omega)).mono ?_
  rintro e w6 ⟨ad6, n6, cp6, s6, a6, l6, c6, rs6, rfl, hT6, hn6, hS6, hc6⟩
  have k6 := hT6.below
  have t6 := hT6.tw
  have kA := hide (grow_step k6 (grow_step k5 (grow_step k4 (grow_step k3 (grow_step k2 k1)))))
  have hq : Hid (rs6.map Raw.p = [(3, 2)]) := by
    refine std_unique hS6 ⟨by simp, by simp⟩ (fun v => ?_)
    rw [hc6, csum_append, hc3, csum_scl, csum_scl]
    simp [csum]
    split <;> rfl
  rw [hq.out] at t6
  clear hT2 t2 t3 t3' t5 hT5 hT6 k1 k2 k3 k4 k5 k6 z1 z4 hc3 hc6 hS3 hS6 hq
  have x := tb_new w6 ad6 n6 cp6 s6 a6 l6 c6
  have kb := below_alloc w6 (.cells #[.slice ad6 n6 cp6, .bool s6, .slice a6 l6 c6] 27)
  replace t6 := t6.below kb
  replace kA := hide (grow_step kb kA.out)
  clear kb
  go_wp2_with fail
  generalize w6.alloc (.cells #[.slice ad6 n6 cp6, .bool s6, .slice a6 l6 c6] 27) = wb at *
  generalize w6.heap.size = p at *
  obtain ⟨hP6, hz6, hl6⟩ := t6
  obtain rfl : n6 = 1 := hP6.1.symm
  have hTot : Tot [(3, 2)] [(3, 4)] := fun v hc => by
    obtain ⟨q, hq, rfl⟩ := csum_mem hc
    simp at hq
    subst hq
    simp [fv]
  have hval : Hid (2 * 0 - 5 + ev [(3, 2)] (val1 [(3, 4)]) = 3) := by show _ = _; decide
  go_region_held3 (fun w' => w'.cell? ⟨p, 0, none⟩ = some (.slice ad6 1 cp6) ∧ w'.cell? ⟨p, 1, none⟩ = some (.bool s6) ∧ w'.cell? ⟨p, 2, none⟩ = some (.slice a6 l6 c6) ∧ Below wb.heap.size wb w')
    ((refine tkb x ?_; first | focus ((repeat' (first | with_reducible exact Below.refl _ _ | with_reducible assumption | with_reducible refine grow_step (by with_reducible assumption) ?_ | with_reducible refine grow_drew ?_ | with_reducible refine grow_alloc ?_ _ | with_reducible refine grow_drewN ?_ _)); done) | ((refine Below.setCell (Below.setCell ?_ ?_ _) ?_ _) <;> first | focus ((repeat' (first | with_reducible exact Below.refl _ _ | with_reducible assumption | with_reducible refine grow_step (by with_reducible assumption) ?_ | with_reducible refine grow_drew ?_ | with_reducible refine grow_alloc ?_ _ | with_reducible refine grow_drewN ?_ _)); done) | (exact Nat.le_refl _) | (exact hw7) | (exact Nat.le_succ_of_le hw7))))
    (first | (go_at_call 39; refine (zof_n 4 (by decide) (by decide) _).mono ?_; rintro e w7 ⟨s7, a7, l7, c7, rfl, z7, k7, b7⟩; have hw7 : wb.heap.size ≤ w7.heap.size := Below.size (show Below wb.heap.size wb w7 by (repeat' (first | with_reducible exact Below.refl _ _ | with_reducible assumption | with_reducible refine grow_step (by with_reducible assumption) ?_ | with_reducible refine grow_drew ?_ | with_reducible refine grow_alloc ?_ _ | with_reducible refine grow_drewN ?_ _)))) | (go_at_call 40; refine (eval_n (B := 16) (Pr.mono (Pr.below hP6 (by (repeat' (first | with_reducible exact Below.refl _ _ | with_reducible assumption | with_reducible refine grow_step (by with_reducible assumption) ?_ | with_reducible refine grow_drew ?_ | with_reducible refine grow_alloc ?_ _ | with_reducible refine grow_drewN ?_ _)))) (by omega)) (Zm.below hz6 (by (repeat' (first | with_reducible exact Below.refl _ _ | with_reducible assumption | with_reducible refine grow_step (by with_reducible assumption) ?_ | with_reducible refine grow_drew ?_ | with_reducible refine grow_alloc ?_ _ | with_reducible refine grow_drewN ?_ _)))) (by omega) (pr_one_c (Zm.below z7.zm (by (repeat' (first | with_reducible exact Below.refl _ _ | with_reducible assumption | with_reducible refine grow_step (by with_reducible assumption) ?_ | with_reducible refine grow_drew ?_ | with_reducible refine grow_alloc ?_ _ | with_reducible refine grow_drewN ?_ _)))) (by omega) i3 (by simp) (by simp) (by simp)) (by omega)).mono ?_; rintro e w8 ⟨s8, a8, l8, c8, er, rfl, k8, hE⟩; (first | (have q8 := ZB.below (zb_new1 w7 (.cells #[.int .i64 3, .bool s7, .slice a7 l7 c7] 53) false none 0 0) k8; have q0 := q8.c0; have q1 := q8.c1; have q2 := q8.f 0; have q3 := q8.f 1) | (have q8 := ZB.below (zb_new w7 false none 0 0) (grow_step k8 (below_alloc _ _)); have q0 := q8.c0; have q1 := q8.c1; have q2 := q8.f 0; have q3 := q8.f 1) | (have q8 := ZB.below (zb_new wb false none 0 0) (grow_step k8 (grow_alloc (grow_step k7 (grow_drew (Below.refl _ _))) _)); have q0 := q8.c0; have q1 := q8.c1; have q2 := q8.f 0; have q3 := q8.f 1) | skip)))
  · rename_i hH
    have kH := hH.2.2.2
    rcases hE with ⟨hn, _⟩ | ⟨_, rfl, hz8, hl8⟩
    · exact absurd hTot hn
    · rw [hval.out] at hz8
      have xz := zb_new w8 s8 a8 l8 c8
      have hzc := hz8.below (below_alloc w8 (.cells #[.bool s8, .slice a8 l8 c8] 25))
      have x9 := x.below kH
      have hP9 := hP6.below kH
      have hz9 := hz6.below kH
      have kA9 := hide (grow_step kH kA.out)
      clear hH kH hz8
      try clear q8 q0 q1 q2 q3
      generalize hwc : w8.alloc (.cells #[.bool s8, .slice a8 l8 c8] 25) = wc at *
      clear hwc
      generalize w8.heap.size = qz at *
      have t0 := x9.c0
      have t1 := x9.c1
      have t2 := x9.c2
      clear x z7 k7 k8 hP6 hz6 kA
      go_wp2_with fail
      refine (tvars_n hP9 hz9 hl6 (by omega)).mono ?_
      rintro e wd ⟨adv, nv, cpv, qv, rfl, hIV, hnv, hSv, hcv, kv⟩
      obtain rfl : qv = [(3, 2)] := std_unique hSv ⟨by simp, by simp⟩ hcv
      obtain ⟨hl1, hIV⟩ := hIV
      simp at hl1
      subst hl1
      rcases hIV with h | ⟨gv, rfl, hgv, hIV⟩
      · omega
      · have cv := hIV 0 (by simp)
        simp at cv
        have xd := xz.below kv
        have hzd := hzc.below kv
        have kd := hide (grow_step kv kA9.out)
        clear xz hzc x9 hP9 hz9 kA9 kv t0 t1 t2 hIV
        go_wp2_with fail
        go_region_held3 (fun w' => w'.cell? ⟨qz, 0, none⟩ = some (.bool s8) ∧ w'.cell? ⟨qz, 1, none⟩ = some (.slice a8 l8 c8) ∧ w'.cell? ⟨gv, 0, none⟩ = some (.int .i64 3) ∧ Below wd.heap.size wd w')
          ((refine zk1v xd hgv cv ?_; (repeat' (first | with_reducible exact Below.refl _ _ | with_reducible assumption | with_reducible refine grow_step (by with_reducible assumption) ?_ | with_reducible refine grow_drew ?_ | with_reducible refine grow_alloc ?_ _ | with_reducible refine grow_drewN ?_ _))))
          (first | (go_at_call 41; refine (rof_n 3 (by decide) (by decide) _).mono ?_; rintro e w' ⟨s4', a4', l4', c4', rfl, z4', hg', hl4'⟩) | (go_at_call 26; refine (ris_t (Zn.below hzd (by (repeat' (first | with_reducible exact Below.refl _ _ | with_reducible assumption | with_reducible refine grow_step (by with_reducible assumption) ?_ | with_reducible refine grow_drew ?_ | with_reducible refine grow_alloc ?_ _ | with_reducible refine grow_drewN ?_ _)))) z4'.zm (by omega) (by omega) rfl).mono ?_; rintro e w' ⟨rfl, hg'⟩))
        rename_i hH
        have kf := hide (grow_step hH.2.2.2 kd.out)
        go_wp2_with fail
        go_ret
        exact ⟨by simp, kf.out⟩
  · rename_i hH
    have kH := hH.2.2.2
    rcases hE with ⟨hn, _⟩ | ⟨_, rfl, hz8, hl8⟩
    · exact absurd hTot hn
    · rw [hval.out] at hz8
      have xz := zb_fin q8 s8 a8 l8 c8
      have hzc := zb_zn q8 hz8 s8 a8 l8 c8
      have x9 := x.below kH
      have hP9 := hP6.below kH
      have hz9 := hz6.below kH
      have kA9 := hide (grow_step kH kA.out)
      clear hH kH hz8
      try clear q8 q0 q1 q2 q3
      generalize hwc : (w8.setCell ⟨w7.heap.size + 1, 0, none⟩ (.bool s8)).setCell ⟨w7.heap.size + 1, 1, none⟩ (.slice a8 l8 c8) = wc at *
      clear hwc
      generalize w7.heap.size + 1 = qz at *
      have t0 := x9.c0
      have t1 := x9.c1
      have t2 := x9.c2
      clear x z7 k7 k8 hP6 hz6 kA
      go_wp2_with fail
      refine (tvars_n hP9 hz9 hl6 (by omega)).mono ?_
      rintro e wd ⟨adv, nv, cpv, qv, rfl, hIV, hnv, hSv, hcv, kv⟩
      obtain rfl : qv = [(3, 2)] := std_unique hSv ⟨by simp, by simp⟩ hcv
      obtain ⟨hl1, hIV⟩ := hIV
      simp at hl1
      subst hl1
      rcases hIV with h | ⟨gv, rfl, hgv, hIV⟩
      · omega
      · have cv := hIV 0 (by simp)
        simp at cv
        have xd := xz.below kv
        have hzd := hzc.below kv
        have kd := hide (grow_step kv kA9.out)
        clear xz hzc x9 hP9 hz9 kA9 kv t0 t1 t2 hIV
        go_wp2_with fail
        go_region_held3 (fun w' => w'.cell? ⟨qz, 0, none⟩ = some (.bool s8) ∧ w'.cell? ⟨qz, 1, none⟩ = some (.slice a8 l8 c8) ∧ w'.cell? ⟨gv, 0, none⟩ = some (.int .i64 3) ∧ Below wd.heap.size wd w')
          ((refine zk1v xd hgv cv ?_; (repeat' (first | with_reducible exact Below.refl _ _ | with_reducible assumption | with_reducible refine grow_step (by with_reducible assumption) ?_ | with_reducible refine grow_drew ?_ | with_reducible refine grow_alloc ?_ _ | with_reducible refine grow_drewN ?_ _))))
          (first | (go_at_call 41; refine (rof_n 3 (by decide) (by decide) _).mono ?_; rintro e w' ⟨s4', a4', l4', c4', rfl, z4', hg', hl4'⟩) | (go_at_call 26; refine (ris_t (Zn.below hzd (by (repeat' (first | with_reducible exact Below.refl _ _ | with_reducible assumption | with_reducible refine grow_step (by with_reducible assumption) ?_ | with_reducible refine grow_drew ?_ | with_reducible refine grow_alloc ?_ _ | with_reducible refine grow_drewN ?_ _)))) z4'.zm (by omega) (by omega) rfl).mono ?_; rintro e w' ⟨rfl, hg'⟩))
        rename_i hH
        have kf := hide (grow_step hH.2.2.2 kd.out)
        go_wp2_with fail
        go_ret
        exact ⟨by simp, kf.out⟩
  · rename_i hH
    have kH := hH.2.2.2
    rcases hE with ⟨hn, _⟩ | ⟨_, rfl, hz8, hl8⟩
    · exact absurd hTot hn
    · rw [hval.out] at hz8
      have xz := zb_fin q8 s8 a8 l8 c8
      have hzc := zb_zn q8 hz8 s8 a8 l8 c8
      have x9 := x.below kH
      have hP9 := hP6.below kH
      have hz9 := hz6.below kH
      have kA9 := hide (grow_step kH kA.out)
      clear hH kH hz8
      try clear q8 q0 q1 q2 q3
      generalize hwc : (w8.setCell ⟨w7.heap.size, 0, none⟩ (.bool s8)).setCell ⟨w7.heap.size, 1, none⟩ (.slice a8 l8 c8) = wc at *
      clear hwc
      generalize w7.heap.size = qz at *
      have t0 := x9.c0
      have t1 := x9.c1
      have t2 := x9.c2
      clear x z7 k7 k8 hP6 hz6 kA
      go_wp2_with fail
      refine (tvars_n hP9 hz9 hl6 (by omega)).mono ?_
      rintro e wd ⟨adv, nv, cpv, qv, rfl, hIV, hnv, hSv, hcv, kv⟩
      obtain rfl : qv = [(3, 2)] := std_unique hSv ⟨by simp, by simp⟩ hcv
      obtain ⟨hl1, hIV⟩ := hIV
      simp at hl1
      subst hl1
      rcases hIV with h | ⟨gv, rfl, hgv, hIV⟩
      · omega
      · have cv := hIV 0 (by simp)
        simp at cv
        have xd := xz.below kv
        have hzd := hzc.below kv
        have kd := hide (grow_step kv kA9.out)
        clear xz hzc x9 hP9 hz9 kA9 kv t0 t1 t2 hIV
        go_wp2_with fail
        go_region_held3 (fun w' => w'.cell? ⟨qz, 0, none⟩ = some (.bool s8) ∧ w'.cell? ⟨qz, 1, none⟩ = some (.slice a8 l8 c8) ∧ w'.cell? ⟨gv, 0, none⟩ = some (.int .i64 3) ∧ Below wd.heap.size wd w')
          ((refine zk1v xd hgv cv ?_; (repeat' (first | with_reducible exact Below.refl _ _ | with_reducible assumption | with_reducible refine grow_step (by with_reducible assumption) ?_ | with_reducible refine grow_drew ?_ | with_reducible refine grow_alloc ?_ _ | with_reducible refine grow_drewN ?_ _))))
          (first | (go_at_call 41; refine (rof_n 3 (by decide) (by decide) _).mono ?_; rintro e w' ⟨s4', a4', l4', c4', rfl, z4', hg', hl4'⟩) | (go_at_call 26; refine (ris_t (Zn.below hzd (by (repeat' (first | with_reducible exact Below.refl _ _ | with_reducible assumption | with_reducible refine grow_step (by with_reducible assumption) ?_ | with_reducible refine grow_drew ?_ | with_reducible refine grow_alloc ?_ _ | with_reducible refine grow_drewN ?_ _)))) z4'.zm (by omega) (by omega) rfl).mono ?_; rintro e w' ⟨rfl, hg'⟩))
        rename_i hH
        have kf := hide (grow_step hH.2.2.2 kd.out)
        go_wp2_with fail
        go_ret
        exact ⟨by simp, kf.out⟩
  · rename_i hH
    have kH := hH.2.2.2
    rcases hE with ⟨hn, _⟩ | ⟨_, rfl, hz8, hl8⟩
    · exact absurd hTot hn
    · rw [hval.out] at hz8
      have xz := zb_fin q8 s8 a8 l8 c8
      have hzc := zb_zn q8 hz8 s8 a8 l8 c8
      have x9 := x.below kH
      have hP9 := hP6.below kH
      have hz9 := hz6.below kH
      have kA9 := hide (grow_step kH kA.out)
      clear hH kH hz8
      try clear q8 q0 q1 q2 q3
      generalize hwc : (w8.setCell ⟨wb.heap.size, 0, none⟩ (.bool s8)).setCell ⟨wb.heap.size, 1, none⟩ (.slice a8 l8 c8) = wc at *
      clear hwc
      generalize wb.heap.size = qz at *
      have t0 := x9.c0
      have t1 := x9.c1
      have t2 := x9.c2
      clear x z7 k7 k8 hP6 hz6 kA
      go_wp2_with fail
      refine (tvars_n hP9 hz9 hl6 (by omega)).mono ?_
      rintro e wd ⟨adv, nv, cpv, qv, rfl, hIV, hnv, hSv, hcv, kv⟩
      obtain rfl : qv = [(3, 2)] := std_unique hSv ⟨by simp, by simp⟩ hcv
      obtain ⟨hl1, hIV⟩ := hIV
      simp at hl1
      subst hl1
      rcases hIV with h | ⟨gv, rfl, hgv, hIV⟩
      · omega
      · have cv := hIV 0 (by simp)
        simp at cv
        have xd := xz.below kv
        have hzd := hzc.below kv
        have kd := hide (grow_step kv kA9.out)
        clear xz hzc x9 hP9 hz9 kA9 kv t0 t1 t2 hIV
        go_wp2_with fail
        go_region_held3 (fun w' => w'.cell? ⟨qz, 0, none⟩ = some (.bool s8) ∧ w'.cell? ⟨qz, 1, none⟩ = some (.slice a8 l8 c8) ∧ w'.cell? ⟨gv, 0, none⟩ = some (.int .i64 3) ∧ Below wd.heap.size wd w')
          ((refine zk1v xd hgv cv ?_; (repeat' (first | with_reducible exact Below.refl _ _ | with_reducible assumption | with_reducible refine grow_step (by with_reducible assumption) ?_ | with_reducible refine grow_drew ?_ | with_reducible refine grow_alloc ?_ _ | with_reducible refine grow_drewN ?_ _))))
          (first | (go_at_call 41; refine (rof_n 3 (by decide) (by decide) _).mono ?_; rintro e w' ⟨s4', a4', l4', c4', rfl, z4', hg', hl4'⟩) | (go_at_call 26; refine (ris_t (Zn.below hzd (by (repeat' (first | with_reducible exact Below.refl _ _ | with_reducible assumption | with_reducible refine grow_step (by with_reducible assumption) ?_ | with_reducible refine grow_drew ?_ | with_reducible refine grow_alloc ?_ _ | with_reducible refine grow_drewN ?_ _)))) z4'.zm (by omega) (by omega) rfl).mono ?_; rintro e w' ⟨rfl, hg'⟩))
        rename_i hH
        have kf := hide (grow_step hH.2.2.2 kd.out)
        go_wp2_with fail
        go_ret
        exact ⟨by simp, kf.out⟩
end Go.Proofs.Ytdbbfpfmfchmgaa

namespace Go.Proofs.Ytdbbfpfmfchmgaa
open Go.RowKit Go.Sort Go.Shelf
open Tm

def Raw.okm (w : World) (B : Nat) (x : Raw) : Prop := Zm w x.s x.a x.l x.c x.z ∧ x.l ≤ B ∧ I64 x.v
theorem pl_raw {w : World} {b off : Nat} {ps : List (Int × Int)} {B : Nat} (h : PL w b off ps B) : ∃ rs : List Raw, rs.map Raw.p = ps ∧ (∀ x ∈ rs, x.okm w B) ∧ ∀ j u, (flat rs)[j]? = some u → w.cell? ⟨b, off + j, none⟩ = some u := by
  have hex : ∀ i, ∃ x : Raw, (hi : i < ps.length) → x.p = ps[i] ∧ x.okm w B ∧ w.cell? ⟨b, off + i * 3, none⟩ = some (.int .i64 x.v) ∧ w.cell? ⟨b, off + i * 3 + 1, none⟩ = some (.bool x.s) ∧ w.cell? ⟨b, off + i * 3 + 2, none⟩ = some (.slice x.a x.l x.c) := by
    intro i
    by_cases hi : i < ps.length
    · obtain ⟨s, a, l, c, h0, h1, h2, h3, h4, h5⟩ := h.2 i hi
      exact ⟨⟨ps[i].1, s, a, l, c, ps[i].2⟩, fun _ => ⟨rfl, ⟨h3, h4, h5⟩, h0, h1, h2⟩⟩
    · exact ⟨⟨0, false, none, 0, 0, 0⟩, fun h => absurd h hi⟩
  obtain ⟨Q, hQ⟩ := Classical.skolem.1 hex
  refine ⟨(List.range ps.length).map Q, ?_, ?_, ?_⟩
  · apply List.ext_getElem (by simp)
    intro i h1 h2
    simp only [List.getElem_map, List.getElem_range]
    exact (hQ i (by simpa using h2)).1
  · intro x hx
    obtain ⟨i, hi, rfl⟩ := List.mem_map.1 hx
    exact (hQ i (List.mem_range.1 hi)).2.1
  · intro j u hu
    have hlen := flat_length ((List.range ps.length).map Q)
    have hj : j < (flat ((List.range ps.length).map Q)).length := (List.getElem?_eq_some_iff.1 hu).1
    simp only [List.length_map, List.length_range] at hlen
    have hi : j / 3 < ((List.range ps.length).map Q).length := by simp; omega
    have hg := flat_get ((List.range ps.length).map Q) (j / 3) (j % 3) hi (Nat.mod_lt _ (by decide))
    rw [show j / 3 * 3 + j % 3 = j from by omega, hu] at hg
    simp only [List.getElem_map, List.getElem_range] at hg
    obtain ⟨_, _, h0, h1, h2⟩ := hQ (j / 3) (by simpa using hi)
    have hm : j % 3 = 0 ∨ j % 3 = 1 ∨ j % 3 = 2 := by omega
    rcases hm with e | e | e
    · rw [e] at hg
      simp [Raw.enc] at hg
      subst hg
      rw [show off + j = off + j / 3 * 3 from by omega]
      exact h0
    · rw [e] at hg
      simp [Raw.enc] at hg
      subst hg
      rw [show off + j = off + j / 3 * 3 + 1 from by omega]
      exact h1
    · rw [e] at hg
      simp [Raw.enc] at hg
      subst hg
      rw [show off + j = off + j / 3 * 3 + 2 from by omega]
      exact h2
theorem row_pr {w : World} {base n : Nat} {e : TypeId} {v : Value} {rs : List Raw} {B : Nat} (h : w.ownsRow base e 3 v n (flat rs)) (hok : ∀ x ∈ rs, x.okm w B) : ∃ ad cap, v = .slice ad n cap ∧ Pr w ad n (rs.map Raw.p) B := by
  have hl : rs.length = n := by have := h.1; rw [flat_length] at this; omega
  rcases h.2 with ⟨rfl, rfl⟩ | ⟨g, cap, cur, rfl, _, hcur, _, _, _, htake⟩
  · exact ⟨none, 0, rfl, by simpa using hl, .inl rfl⟩
  · refine ⟨_, cap, rfl, by simpa using hl, .inr ⟨g, 0, rfl, (Array.getElem?_eq_some_iff.1 hcur).1, fun i hi => ?_⟩⟩
    have hi' : i < rs.length := by simpa using hi
    have hc : ∀ c, c < 3 → w.cell? ⟨g, 0 + i * 3 + c, none⟩ = (rs[i]).enc[c]? := by
      intro c hc
      have hg := flat_get rs i c hi' hc
      rw [← htake, List.getElem?_take, if_pos (by omega)] at hg
      rw [← hg, Nat.zero_add]
      exact (cell_of_row w g (i * 3 + c) _ _ (0, 0) hcur).trans (by simp)
    obtain ⟨hz, hlx, hv⟩ := hok rs[i] (List.getElem_mem hi')
    rw [List.getElem_map]
    exact ⟨_, _, _, _, by simpa [Raw.enc, Raw.p] using hc 0 (by decide), by simpa [Raw.enc] using hc 1 (by decide), by simpa [Raw.enc] using hc 2 (by decide), hz, hlx, hv⟩

theorem infoV : (Try.prog.info? 53).map (fun i => (i.zero, i.size, i.bytes)) = some (some (.agg #[.int .i64 0, .bool false, .slice none 0 0]), 3, 40) := by kernel_rfl
set_option maxRecDepth 100000 in
theorem append_vals0 {X : World} {v : Int} {s : Bool} {a : Option Addr} {l c : Nat} {z : Int} {ad : Option Addr} {n cp : Nat} {vs : List (Int × Int)} {B : Nat} (hz : Zm X s a l c z) (hl : l ≤ B) (hv : I64 v) (hV : Pr X ad n vs B) (hn : n ≤ 1073741824) (hcp : ad = none → n = 0 ∧ cp = 0) (ty : TypeId) :
    ∃ v' w', (Builtin.append_ #[54, 54] ty #[.slice (some ⟨X.heap.size, 0, none⟩) 1 1, .slice ad n cp]).run Try.prog (X.alloc (.cells #[.int .i64 v, .bool s, .slice a l c] 53)) = .ok v' w' ∧ Below X.heap.size X w' ∧ ∃ ad' cp', v' = .slice ad' (1 + n) cp' ∧ Pr w' ad' (1 + n) ((v, z) :: vs) B := by
  obtain ⟨i0, hi, hz0, hz1, hz2⟩ := info_parts infoV
  have hka := below_alloc X (.cells #[.int .i64 v, .bool s, .slice a l c] 53)
  have hlit := World.ownsRow_lit (base := X.heap.size) (e := 53) (size := 3) X #[.int .i64 v, .bool s, .slice a l c] 1 (Nat.le_refl _) (by unfold maxLen; decide) (by simp)
  have hfin : ∀ (rs : List Raw), rs.map Raw.p = vs → (∀ x ∈ rs, x.okm X B) → ∀ v' w', w'.ownsRow X.heap.size 53 3 v' (1 + n) (([.int .i64 v, .bool s, .slice a l c] : List Value) ++ flat rs) → Below X.heap.size X w' → ∃ ad' cp', v' = .slice ad' (1 + n) cp' ∧ Pr w' ad' (1 + n) ((v, z) :: vs) B := by
    intro rs hrs hok v' w' hrow hb
    have e : (([.int .i64 v, .bool s, .slice a l c] : List Value) ++ flat rs) = flat (⟨v, s, a, l, c, z⟩ :: rs) := by simp [flat, Raw.enc]
    rw [e] at hrow
    obtain ⟨ad', cp', h1, h2⟩ := row_pr (B := B) hrow (fun x hx => by
      rcases List.mem_cons.1 hx with rfl | hx
      · exact ⟨hz.below hb, hl, hv⟩
      · obtain ⟨g1, g2, g3⟩ := hok x hx
        exact ⟨g1.below hb, g2, g3⟩)
    exact ⟨ad', cp', h1, by rw [List.map_cons, hrs] at h2; exact h2⟩
  cases ad with
  | none =>
    obtain ⟨rfl, rfl⟩ := hcp rfl
    have hvs : vs = [] := List.eq_nil_of_length_eq_zero hV.1
    subst hvs
    have hr := run_append_owned_none (P := Try.prog) (X.alloc (.cells #[.int .i64 v, .bool s, .slice a l c] 53)) X.heap.size 54 ty 53 i0 3 Try.underlying54 hi _ 1 _ hlit
    exact ⟨_, _, hr, hka, hfin [] rfl (fun x hx => by cases hx) _ _ (by simpa [flat] using hlit) hka⟩
  | some ad =>
    have hraw : ∃ rs : List Raw, rs.map Raw.p = vs ∧ (∀ x ∈ rs, x.okm X B) ∧ (flat rs).length = n * 3 ∧ ∀ j u, (flat rs)[j]? = some u → (X.alloc (.cells #[.int .i64 v, .bool s, .slice a l c] 53)).cell? (ad.add j) = some u := by
      rcases hV.2 with h0 | ⟨b, off, e, hPL⟩
      · have hvs : vs = [] := List.eq_nil_of_length_eq_zero (by rw [hV.1]; exact h0)
        subst hvs
        exact ⟨[], rfl, fun x hx => (by cases hx), by rw [h0]; rfl, fun j u hu => by simp [flat] at hu⟩
      · cases e
        obtain ⟨rs, h1, h2, h3⟩ := pl_raw hPL
        refine ⟨rs, h1, h2, by rw [flat_length, ← hV.1, ← h1, List.length_map], fun j u hu => ?_⟩
        rw [Addr.add_lit]
        exact (hka.cell (p := ⟨b, off + j, none⟩) hPL.1).trans (h3 j u hu)
    obtain ⟨rs, h1, h2, h3, h4⟩ := hraw
    obtain ⟨v', w', hr, hrow, hgr, -⟩ := run_append_own (P := Try.prog) (X.alloc (.cells #[.int .i64 v, .bool s, .slice a l c] 53)) X.heap.size 54 ty 53 i0 _ 3 40 Try.underlying54 hi hz0 hz1 hz2 rfl (by decide) _ 1 _ hlit ad n cp (flat rs) h3 h4 (fun u hu => by
      obtain ⟨x, _, hx⟩ := List.mem_flatMap.1 hu
      exact v3_one _ _ _ _ _ u hx) (by unfold maxLen; omega) (by omega) (by simp)
    have hb : Below X.heap.size X w' := hka.grown hgr hka.size (fun k e => by cases e; exact Nat.le_refl _)
    exact ⟨v', w', hr, hb, hfin rs h1 h2 v' w' hrow hb⟩
theorem append_vals {X : World} {q : Nat} {v : Int} {s : Bool} {a : Option Addr} {l c : Nat} {z : Int} {ad : Option Addr} {n cp : Nat} {vs : List (Int × Int)} {B : Nat} (hq : X.heap.size = q) (hz : Zm X s a l c z) (hl : l ≤ B) (hv : I64 v) (hV : Pr X ad n vs B) (hn : n ≤ 1073741824) (hcp : ad = none → n = 0 ∧ cp = 0) (ty : TypeId) :
    ∃ v' w', (Builtin.append_ #[54, 54] ty #[.slice (some ⟨q, 0, none⟩) 1 1, .slice ad n cp]).run Try.prog (X.alloc (.cells #[.int .i64 v, .bool s, .slice a l c] 53)) = .ok v' w' ∧ Below X.heap.size X w' ∧ ∃ ad' cp', v' = .slice ad' (1 + n) cp' ∧ Pr w' ad' (1 + n) ((v, z) :: vs) B := by
  subst hq
  exact append_vals0 hz hl hv hV hn hcp ty
theorem fv_cons_ne {p : Int × Int} {vs : List (Int × Int)} {u : Int} (h : p.1 ≠ u) : fv (p :: vs) u = fv vs u := by simp [fv, h]
theorem tot_put {ps us vs rs : List (Int × Int)} {v x : Int} (h1 : Tot us vs) (h2 : Tot ps ((v, x) :: vs)) (h : ∀ u, csum rs u = csum (wo v ps ++ scl (csum ps v) us) u) : Tot rs vs := fun u hc => by
  rw [h, csum_append, csum_wo, csum_scl] at hc
  by_cases e : csum us u = 0
  · rw [e, Int.mul_zero, Int.add_zero] at hc
    by_cases eu : u = v
    · rw [if_pos eu] at hc; exact absurd rfl hc
    · rw [if_neg eu] at hc
      have := h2 u hc
      rwa [fv_cons_ne (fun h => eu h.symm)] at this
  · exact h1 u e
theorem ev_put {ps us vs rs : List (Int × Int)} {v k k2 : Int} (h : ∀ u, csum rs u = csum (wo v ps ++ scl (csum ps v) us) u) :
    k + csum ps v * k2 + ev rs (val1 vs) = k + ev ps (val1 ((v, k2 + ev us (val1 vs)) :: vs)) := by
  rw [ev_congr h, ev_append, ev_scl, ev_split v ps]
  have e1 : val1 ((v, k2 + ev us (val1 vs)) :: vs) v = k2 + ev us (val1 vs) := by simp [val1, fv]
  have e2 : ev (wo v ps) (val1 ((v, k2 + ev us (val1 vs)) :: vs)) = ev (wo v ps) (val1 vs) := ev_congr_on fun u hu => by
    have : u ≠ v := fun e => hu (by rw [csum_wo, if_pos e])
    unfold val1
    rw [fv_cons_ne (fun h => this h.symm)]
  rw [e1, e2, Int.mul_add]
  omega
theorem zn_len0 {w : World} {s : Bool} {a : Option Addr} {l c : Nat} {z : Int} (h : Zn w s a l c z) (hz : z = 0) : l = 0 := by
  obtain ⟨n, h1, h2, _⟩ := h
  refine h1.len.1 ?_
  cases s <;> simp [sg] at h2 <;> omega
end Go.Proofs.Ytdbbfpfmfchmgaa
