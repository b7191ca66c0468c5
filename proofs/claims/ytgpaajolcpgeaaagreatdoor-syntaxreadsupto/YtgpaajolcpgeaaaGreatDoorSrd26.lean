/-
 Several texts in one: OJ, OK, OL, ON, OP, OR, OS, OT, OU, OV, OW, I3, IK, I1, I5, ID, IE, IF, IG, OX, OY, IN, IO, IS, IP.
-/
import Derived.Test.YtgpaajolcpgeaaaGreatDoorSrd25
import Derived.Deep.QuietTactic
import Derived.BigQuiet
import Derived.Test.YtgpaajolcpgeaaaGreatDoorSrd22
import Derived.Test.YtgpaajolcpgeaaaGreatDoorSrd08
import Derived.Test.YtgpaajolcpgeaaaGreatDoorSrd12
namespace Go.Proofs.YtgpaajolcpgeaaaGreatDoor
open Go.RowKit Go.Shelf
namespace Sx

set_option maxRecDepth 100000 in
set_option maxHeartbeats 3200000 in
theorem ints_t {s : Bool} {a1 a2 : Option Addr} {l c1 c2 : Nat} {zs : List Int} {w : World} (h1 : Rd w a1 l c1 zs) (h2 : Rd w a2 l c2 zs) :
  Calls Tryz.prog 39 #[.agg #[.bool s, .slice a1 l c1], .agg #[.bool s, .slice a2 l c2]] w fun e w' => e = .returned (.bool true) ∧ Below w.heap.size w w' := by
 have hll := h1.2.1
 have hlc := h1.2.2.1
 have hss : (s != s) = false := by simp
 have hnn : ((l : Int) != (l : Int)) = false := by simp
 go_enter Tryz.func39, Tryz.ntmps39
 go_wp2_with fail
 have b0 : Below w.heap.size w ((w.alloc (.cells #[.bool s, .slice a1 l c1] 25)).alloc (.cells #[.bool s, .slice a2 l c2] 25)) := below_alloc' (below_alloc _ _) _
 have y1 := block_later (heap_alloc_new w (.cells #[.bool s, .slice a1 l c1] 25)) (below_alloc _ (.cells #[.bool s, .slice a2 l c2] 25))
 have y2 : ((w.alloc (.cells #[.bool s, .slice a1 l c1] 25)).alloc (.cells #[.bool s, .slice a2 l c2] 25)).heap[w.heap.size + 1]? = some (.cells #[.bool s, .slice a2 l c2] 25 (0, 0)) := by
  have := heap_alloc_new (w.alloc (.cells #[.bool s, .slice a1 l c1] 25)) (.cells #[.bool s, .slice a2 l c2] 25)
  simpa using this
 replace h1 := h1.below b0
 replace h2 := h2.below b0
 generalize (w.alloc (.cells #[.bool s, .slice a1 l c1] 25)).alloc (.cells #[.bool s, .slice a2 l c2] 25) = wb at *
 have p0 := cell_of_row wb _ 0 _ _ (0, 0) y1
 have p1 := cell_of_row wb _ 1 _ _ (0, 0) y1
 have q0 := cell_of_row wb _ 0 _ _ (0, 0) y2
 have q1 := cell_of_row wb _ 1 _ _ (0, 0) y2
 go_loopw [5] (fun i wr => ∃ (k n : Nat), k ≤ l ∧ i = .int .i64 k ∧ wr = wb.drewN n) (fun i _ => l - (intOf i).toNat)
 case atStart => exact ⟨0, 0, Nat.zero_le _, rfl, rfl⟩
 case round =>
  obtain ⟨k, n, hk, rfl, rfl⟩ := hrel
  by_cases hkl : k < l
  ·obtain ⟨_, _, _, hL, ⟨rfl, e, _⟩ | ⟨x1, rfl, e | ⟨b1, o1, rfl, hb1, hc1⟩⟩⟩ := h1
   ·omega
   ·omega
   obtain ⟨_, _, _, _, ⟨rfl, e, _⟩ | ⟨x2, rfl, e | ⟨b2, o2, rfl, hb2, hc2⟩⟩⟩ := h2
   ·omega
   ·omega
   have u1 := hc1 k hkl
   have u2 := hc2 k hkl
   have hbd := lz_bd hL k
   clear hc1 hc2
   generalize lz zs k = z at *
   go_wp2_with fail
   go_quiet (fail)
   go_wp2_with fail
   exact ⟨⟨k + 1, n + nq, by omega, by go_num, rfl⟩, by simp [intOf]; omega⟩
  ·obtain rfl : k = l := by omega
   go_wp2_with fail
   go_ret
   exact ⟨rfl, b0.trans (below_drewN _ _ _)⟩
/-- a kid's place in memory -/
theorem rk_at {F : Nat → Prop} {w : World} {R : TC → Tr → Prop} {ka : Option Addr} {kn : Nat} {ks : List Tr} (h : RK F w R ka kn ks) {i : Nat} (hi : i < ks.length) : ∃ b off y, ka = some ⟨b, off, none⟩ ∧ b < w.heap.size ∧ (∀ j, j < 6 → w.cell? ⟨b, off + i * 6 + j, none⟩ = y.enc[j]?) ∧ R y ks[i] := by
 obtain ⟨b, off, e, hb, hu, hc⟩ := h.2.resolve_left (by have := h.1; omega)
 obtain ⟨y, hy, ry⟩ := hc i hi
 exact ⟨b, off, y, e, hu.lt, hy, ry⟩
set_option maxRecDepth 100000 in
set_option maxHeartbeats 6400000 in
theorem exact_t (n : Nat) : ∀ {F F' : Nat → Prop} {w : World} {x y : TC} {t : Tr}, Rt F w x t → Rt F' w y t → ¬ Dp n t → (∀ i u, At4 i t u → (ksO u).length ≤ 1073741824 ∧ (lbO u).nms.length ≤ 1073741824) →
  Calls Tryz.prog 13 #[x.val, y.val] w fun e w' => e = .returned (.bool true) ∧ Below w.heap.size w w' := by
 induction n with
 | zero => exact fun _ _ h => absurd ⟨_, rfl⟩ h
 | succ n ih =>
  intro F F' w x y t hx hy hd hle
  obtain ⟨lb, ks, rfl⟩ := rt_of hx
  obtain ⟨hl1, hk1⟩ := rt_nd hx
  obtain ⟨hl2, hk2⟩ := rt_nd hy
  obtain ⟨hkm, hnm⟩ := hle 0 _ rfl
  have b1 := below_alloc w (.cells #[.int .i64 x.k, .string x.nm, .slice x.na x.nn x.nc, .bool x.s, .slice x.a x.l x.c, .slice x.ka x.kn x.kc] 28)
  have b2 := below_alloc (w.alloc (.cells #[.int .i64 x.k, .string x.nm, .slice x.na x.nn x.nc, .bool x.s, .slice x.a x.l x.c, .slice x.ka x.kn x.kc] 28)) (.cells #[.int .i64 y.k, .string y.nm, .slice y.na y.nn y.nc, .bool y.s, .slice y.a y.l y.c, .slice y.ka y.kn y.kc] 28)
  have y1 := (vb_new w x).below b2
  have y2 := vb_new (w.alloc (.cells #[.int .i64 x.k, .string x.nm, .slice x.na x.nn x.nc, .bool x.s, .slice x.a x.l x.c, .slice x.ka x.kn x.kc] 28)) y
  have ez : (w.alloc (.cells #[.int .i64 x.k, .string x.nm, .slice x.na x.nn x.nc, .bool x.s, .slice x.a x.l x.c, .slice x.ka x.kn x.kc] 28)).heap.size = w.heap.size + 1 := by simp
  rw [ez] at y2
  clear ez
  have n1 := (hl1.nms.kf (Kf.of_below b1)).kf (Kf.of_below b2)
  have n2 := (hl2.nms.kf (Kf.of_below b1)).kf (Kf.of_below b2)
  have r1 := (hl1.rd.below b1).below b2
  have r2 := (hl2.rd.below b1).below b2
  have g1 := KL.kf (s := ⟨x.ka, x.kn, x.kc⟩) (KL.kf (s := ⟨x.ka, x.kn, x.kc⟩) hk1 (Kf.of_below b1)) (Kf.of_below b2)
  have g2 := KL.kf (s := ⟨y.ka, y.kn, y.kc⟩) (KL.kf (s := ⟨y.ka, y.kn, y.kc⟩) hk2 (Kf.of_below b1)) (Kf.of_below b2)
  have hb := hide (grow_step b2 b1)
  have ekk : x.k = y.k := hl1.k.symm.trans hl2.k
  have enm : x.nm = y.nm := hl1.nm.symm.trans hl2.nm
  have es : x.s = y.s := hl1.s.symm.trans hl2.s
  have enn : x.nn = y.nn := hl1.nms.1.symm.trans hl2.nms.1
  have el : x.l = y.l := hl1.rd.1.symm.trans hl2.rd.1
  have ekn : x.kn = y.kn := hk1.1.symm.trans hk2.1
  have hdk : ∀ k ∈ ks, ¬ Dp n k := fun k hk h => hd (dp_nd.2 ⟨k, hk, h⟩)
  have hlk : ∀ k ∈ ks, ∀ i u, At4 i k u → (ksO u).length ≤ 1073741824 ∧ (lbO u).nms.length ≤ 1073741824 := fun k hk i u hu => hle (i + 1) u ⟨k, hk, hu⟩
  rw [ksO_nd] at hkm
  rw [lbO_nd] at hnm
  clear hl1 hl2 hk1 hk2 hx hy b1 b2 hd hle
  obtain ⟨k, nm, na, nn, nc, s, a, l, c, ka, kn, kc⟩ := x
  obtain ⟨k2, nm2, na2, nn2, nc2, s2, a2, l2, c2, ka2, kn2, kc2⟩ := y
  dsimp only at *
  subst ekk enm es enn el ekn
  have hee : (nm.toList == nm.toList) = true := by simp
  have hkk : (k != k) = false := by simp
  have hn1 : ((nn : Int) != (nn : Int)) = false := by simp
  have hn2 : ((kn : Int) != (kn : Int)) = false := by simp
  go_enter Tryz.func13, Tryz.ntmps13
  iterate 8 (first | go_skip | go_guarded | go_step | go_upon | go_simp)
  generalize (w.alloc (.cells #[.int .i64 k, .string nm, .slice na nn nc, .bool s, .slice a l c, .slice ka kn kc] 28)).alloc (.cells #[.int .i64 k, .string nm, .slice na2 nn nc2, .bool s, .slice a2 l c2, .slice ka2 kn kc2] 28) = W at *
  generalize hz : w.heap.size = bt at *
  replace hz := hide hz
  generalize hbu : bt + 1 = bu at *
  have hbW : bt ≤ W.heap.size := Nat.le_of_lt y1.lt
  have a0 := y1.c0
  have a1 := y1.c1
  have a2' := y1.c2
  have a3 := y1.c3
  have a4 := y1.c4
  have a5 := y1.c5
  have d0 := y2.c0
  have d1 := y2.c1
  have d2 := y2.c2
  have d3 := y2.c3
  have d4 := y2.c4
  have d5 := y2.c5
  dsimp only at a0 a1 a2' a3 a4 a5 d0 d1 d2 d3 d4 d5
  have hin := hide (ints_t (s := s) r1 r2)
  go_wp2_with fail
  refine hin.out.mono ?_
  rintro e W1 ⟨rfl, k1⟩
  have z1 := y1.below k1
  have z2 := y2.below k1
  have m1 := n1.kf (Kf.of_below k1)
  have m2 := n2.kf (Kf.of_below k1)
  have f1 := KL.kf (s := ⟨ka, kn, kc⟩) g1 (Kf.of_below k1)
  have f2 := KL.kf (s := ⟨ka2, kn, kc2⟩) g2 (Kf.of_below k1)
  have hb1 := hide (hb.out.trans (k1.mono hbW))
  have hbW1 := Nat.le_trans hbW k1.size
  have hmn := m1.1
  have hmk := f1.1
  dsimp only at hmk
  clear hin a0 a1 a2' a3 a4 a5 d0 d1 d2 d3 d4 d5 y1 y2 n1 n2 r1 r2 g1 g2 hb hbW k1 hee hkk hn1 hn2
  have a2' := z1.c2
  have d2 := z2.c2
  dsimp only at a2' d2
  go_wp2_with fail
  go_loopw [5] (fun i wr => ∃ (j q : Nat), j ≤ nn ∧ i = .int .i64 j ∧ wr = W1.drewN q) (fun i _ => nn - (intOf i).toNat)
  case atStart => exact ⟨0, 0, Nat.zero_le _, rfl, rfl⟩
  case round =>
   obtain ⟨j, q, hj, rfl, rfl⟩ := hrel
   by_cases hjn : j < nn
   ·have hlt : decide ((j : Int) < (nn : Int)) = true := by
     rw [decide_eq_true_eq]
     omega
    have hi : (j : Int) < (nn : Int) := by omega
    obtain ⟨b1, o1, e1, -, hbl1, hc1⟩ := m1.2.resolve_left (by omega)
    obtain ⟨b2, o2, e2, -, hbl2, hc2⟩ := m2.2.resolve_left (by omega)
    subst e1 e2
    have htl : j < lb.nms.length := by omega
    have u1 := hc1 j htl
    have u2 := hc2 j htl
    clear hc1 hc2
    generalize lb.nms[j] = nmj at u1 u2
    have hee : (nmj.toList == nmj.toList) = true := by simp
    go_wp2_with fail
    go_quiet (fail)
    go_wp2_with fail
    exact ⟨⟨j + 1, q + nq, by omega, by go_num, rfl⟩, by simp [intOf]; omega⟩
   ·obtain rfl : j = nn := by omega
    have hlt : decide ((j : Int) < (j : Int)) = false := by simp
    have kq := below_drewN W1.heap.size W1 q
    have w1 := z1.below kq
    have w2 := z2.below kq
    have h1 := KL.kf (s := ⟨ka, kn, kc⟩) f1 (Kf.of_below kq)
    have h2 := KL.kf (s := ⟨ka2, kn, kc2⟩) f2 (Kf.of_below kq)
    have hb2 := hide (hb1.out.trans (kq.mono hbW1))
    have hbW2 := Nat.le_trans hbW1 kq.size
    go_wp2_with fail
    generalize W1.drewN q = W2 at *
    clear z1 z2 f1 f2 m1 m2 hb1 a2' d2 kq
    go_loopw [6] (fun i wr => ∃ j : Nat, j ≤ kn ∧ i = .int .i64 j ∧ Hid (Below W2.heap.size W2 wr)) (fun i _ => kn - (intOf i).toNat)
    case atStart => exact ⟨0, Nat.zero_le _, rfl, hide (Below.refl _ _)⟩
    case round =>
     obtain ⟨j, hj, rfl, kw⟩ := hrel
     have v1 := w1.below kw.out
     have v2 := w2.below kw.out
     have a5 := v1.c5
     have d5 := v2.c5
     dsimp only at a5 d5
     by_cases hjn : j < kn
     ·have hlt : decide ((j : Int) < (kn : Int)) = true := by
       rw [decide_eq_true_eq]
       omega
      have hi : (j : Int) < (kn : Int) := by omega
      have hwr : IntKind.i64.wrap ((j : Int) + 1) = ((j + 1 : Nat) : Int) := by
       rw [IntKind.wrap_i64]
       omega
      have hjl : j < ks.length := by omega
      obtain ⟨b1, o1, p, e1, hb1, hc1, q1⟩ := rk_at h1 hjl
      obtain ⟨b2, o2, q, e2, hb2', hc2, q2⟩ := rk_at h2 hjl
      dsimp only at e1 e2
      subst e1 e2
      have hdj := hdk _ (List.getElem_mem hjl)
      have hlj := hlk _ (List.getElem_mem hjl)
      generalize ks[j] = u at q1 q2 hdj hlj
      go_wp2_with fail
      have kd := grow_drew (Below.refl wr.heap.size wr)
      have kw2 := hide (grow_step kd kw.out)
      have hSS : Hid (∀ w', Below W2.heap.size W2 w' → w'.cell? ⟨bt, 5, none⟩ = some (.slice (some ⟨b1, o1, none⟩) kn kc) ∧ w'.cell? ⟨bu, 5, none⟩ = some (.slice (some ⟨b2, o2, none⟩) kn kc2) ∧ w'.cell? ⟨b1, o1 + j * 6, none⟩ = some (.int .i64 p.k) ∧ w'.cell? ⟨b1, o1 + j * 6 + 1, none⟩ = some (.string p.nm) ∧ w'.cell? ⟨b1, o1 + j * 6 + 2, none⟩ = some (.slice p.na p.nn p.nc) ∧ w'.cell? ⟨b1, o1 + j * 6 + 3, none⟩ = some (.bool p.s) ∧ w'.cell? ⟨b1, o1 + j * 6 + 4, none⟩ = some (.slice p.a p.l p.c) ∧ w'.cell? ⟨b1, o1 + j * 6 + 5, none⟩ = some (.slice p.ka p.kn p.kc) ∧ w'.cell? ⟨b2, o2 + j * 6, none⟩ = some (.int .i64 q.k) ∧ w'.cell? ⟨b2, o2 + j * 6 + 1, none⟩ = some (.string q.nm) ∧ w'.cell? ⟨b2, o2 + j * 6 + 2, none⟩ = some (.slice q.na q.nn q.nc) ∧ w'.cell? ⟨b2, o2 + j * 6 + 3, none⟩ = some (.bool q.s) ∧ w'.cell? ⟨b2, o2 + j * 6 + 4, none⟩ = some (.slice q.a q.l q.c) ∧ w'.cell? ⟨b2, o2 + j * 6 + 5, none⟩ = some (.slice q.ka q.kn q.kc)) := hide fun w' k => by
       have x1 : ∀ i, i < 6 → w'.cell? ⟨b1, o1 + j * 6 + i, none⟩ = p.enc[i]? := fun i hi => (World.cell?_of_block (a := ⟨b1, o1 + j * 6 + i, none⟩) (k.block b1 hb1)).trans (hc1 i hi)
       have x2 : ∀ i, i < 6 → w'.cell? ⟨b2, o2 + j * 6 + i, none⟩ = q.enc[i]? := fun i hi => (World.cell?_of_block (a := ⟨b2, o2 + j * 6 + i, none⟩) (k.block b2 hb2')).trans (hc2 i hi)
       exact ⟨(w1.below k).c5, (w2.below k).c5, x1 0 (by decide), x1 1 (by decide), x1 2 (by decide), x1 3 (by decide), x1 4 (by decide), x1 5 (by decide), x2 0 (by decide), x2 1 (by decide), x2 2 (by decide), x2 3 (by decide), x2 4 (by decide), x2 5 (by decide)⟩
      refine wp_region_held_drew (S := (fun w' => w'.cell? ⟨bt, 5, none⟩ = some (.slice (some ⟨b1, o1, none⟩) kn kc) ∧ w'.cell? ⟨bu, 5, none⟩ = some (.slice (some ⟨b2, o2, none⟩) kn kc2) ∧ w'.cell? ⟨b1, o1 + j * 6, none⟩ = some (.int .i64 p.k) ∧ w'.cell? ⟨b1, o1 + j * 6 + 1, none⟩ = some (.string p.nm) ∧ w'.cell? ⟨b1, o1 + j * 6 + 2, none⟩ = some (.slice p.na p.nn p.nc) ∧ w'.cell? ⟨b1, o1 + j * 6 + 3, none⟩ = some (.bool p.s) ∧ w'.cell? ⟨b1, o1 + j * 6 + 4, none⟩ = some (.slice p.a p.l p.c) ∧ w'.cell? ⟨b1, o1 + j * 6 + 5, none⟩ = some (.slice p.ka p.kn p.kc) ∧ w'.cell? ⟨b2, o2 + j * 6, none⟩ = some (.int .i64 q.k) ∧ w'.cell? ⟨b2, o2 + j * 6 + 1, none⟩ = some (.string q.nm) ∧ w'.cell? ⟨b2, o2 + j * 6 + 2, none⟩ = some (.slice q.na q.nn q.nc) ∧ w'.cell? ⟨b2, o2 + j * 6 + 3, none⟩ = some (.bool q.s) ∧ w'.cell? ⟨b2, o2 + j * 6 + 4, none⟩ = some (.slice q.a q.l q.c) ∧ w'.cell? ⟨b2, o2 + j * 6 + 5, none⟩ = some (.slice q.ka q.kn q.kc))) (by kernel_rfl) (hSS.out _ kw2.out) (fun hHeld => ?_)
      show wpAnyH _ _ _ _ _ 12 _ _ _
      have hex := hide (ih (rt_below q1 kw2.out) (rt_below q2 kw2.out) hdj hlj)
      generalize wr.drew = wdr at *
      clear a5 d5 v1 v2 kd kw hc1 hc2 q1 q2 hdj hlj
      refine wpAnyH_take (i := 0) (oi := ⟨some 70, _, _, _, _, _⟩) (v := ?_) rfl (by kernel_rfl) (by kernel_rfl) (by kernel_rfl) (fun _ _ _ h => by first | exact h | cases h.1) (Or.inl ⟨by rfl, ?_⟩) (by assumption) ?_
      rotate_left
      ·intro wq hSw; (try dsimp only at hSw); go_simp; (try with_reducible rfl)
      (try simp only [Act.put, List.setIfInBounds_toArray, List.set_cons_zero, List.set_cons_succ])
      refine wpAnyH_take (i := 1) (oi := ⟨some 71, _, _, _, _, _⟩) (v := ?_) rfl (by kernel_rfl) (by kernel_rfl) (by kernel_rfl) (fun _ _ _ h => by first | exact h | cases h.1) (Or.inl ⟨by rfl, ?_⟩) (by assumption) ?_
      rotate_left
      ·intro wq hSw; (try dsimp only at hSw); go_simp; (try with_reducible rfl)
      (try simp only [Act.put, List.setIfInBounds_toArray, List.set_cons_zero, List.set_cons_succ])
      refine wpAnyH_take (i := 2) (oi := ⟨some 72, _, _, _, _, _⟩) (v := ?_) rfl (by kernel_rfl) (by kernel_rfl) (by kernel_rfl) (fun _ _ _ h => by first | exact h | cases h.1) (Or.inl ⟨by rfl, ?_⟩) (by assumption) ?_
      rotate_left
      ·intro wq hSw; (try dsimp only at hSw); go_simp; (try with_reducible rfl)
      (try simp only [Act.put, List.setIfInBounds_toArray, List.set_cons_zero, List.set_cons_succ])
      refine wpAnyH_take (i := 3) (oi := ⟨some 73, _, _, _, _, _⟩) (v := ?_) rfl (by kernel_rfl) (by kernel_rfl) (by kernel_rfl) (fun _ _ _ h => by first | exact h | cases h.1) (Or.inl ⟨by rfl, ?_⟩) (by assumption) ?_
      rotate_left
      ·intro wq hSw; (try dsimp only at hSw); go_simp; (try with_reducible rfl)
      (try simp only [Act.put, List.setIfInBounds_toArray, List.set_cons_zero, List.set_cons_succ])
      refine wpAnyH_take (i := 4) (oi := ⟨some 74, _, _, _, _, _⟩) (v := ?_) rfl (by kernel_rfl) (by kernel_rfl) (by kernel_rfl) (fun _ _ _ h => by first | exact h | cases h.1) (Or.inl ⟨by rfl, ?_⟩) (by assumption) ?_
      rotate_left
      ·intro wq hSw; (try dsimp only at hSw); go_simp; (try with_reducible rfl)
      (try simp only [Act.put, List.setIfInBounds_toArray, List.set_cons_zero, List.set_cons_succ])
      refine wpAnyH_take (i := 5) (oi := ⟨some 75, _, _, _, _, _⟩) (v := ?_) rfl (by kernel_rfl) (by kernel_rfl) (by kernel_rfl) (fun _ _ _ h => by first | exact h | cases h.1) (Or.inl ⟨by rfl, ?_⟩) (by assumption) ?_
      rotate_left
      ·intro wq hSw; (try dsimp only at hSw); go_simp; (try with_reducible rfl)
      (try simp only [Act.put, List.setIfInBounds_toArray, List.set_cons_zero, List.set_cons_succ])
      refine wpAnyH_take (i := 6) (oi := ⟨some 76, _, _, _, _, _⟩) (v := ?_) rfl (by kernel_rfl) (by kernel_rfl) (by kernel_rfl) (fun _ _ _ h => by first | exact h | cases h.1) (Or.inl ⟨by rfl, ?_⟩) (by assumption) ?_
      rotate_left
      ·intro wq hSw; (try dsimp only at hSw); go_simp; (try with_reducible rfl)
      (try simp only [Act.put, List.setIfInBounds_toArray, List.set_cons_zero, List.set_cons_succ])
      refine wpAnyH_take (i := 7) (oi := ⟨some 77, _, _, _, _, _⟩) (v := ?_) rfl (by kernel_rfl) (by kernel_rfl) (by kernel_rfl) (fun _ _ _ h => by first | exact h | cases h.1) (Or.inl ⟨by rfl, ?_⟩) (by assumption) ?_
      rotate_left
      ·intro wq hSw; (try dsimp only at hSw); go_simp; (try with_reducible rfl)
      (try simp only [Act.put, List.setIfInBounds_toArray, List.set_cons_zero, List.set_cons_succ])
      refine wpAnyH_take (i := 8) (oi := ⟨some 78, _, _, _, _, _⟩) (v := ?_) rfl (by kernel_rfl) (by kernel_rfl) (by kernel_rfl) (fun _ _ _ h => by first | exact h | cases h.1) (Or.inl ⟨by rfl, ?_⟩) (by assumption) ?_
      rotate_left
      ·intro wq hSw; (try dsimp only at hSw); go_simp; (try with_reducible rfl)
      (try simp only [Act.put, List.setIfInBounds_toArray, List.set_cons_zero, List.set_cons_succ])
      refine wpAnyH_take (i := 9) (oi := ⟨some 79, _, _, _, _, _⟩) (v := ?_) rfl (by kernel_rfl) (by kernel_rfl) (by kernel_rfl) (fun _ _ _ h => by first | exact h | cases h.1) (Or.inl ⟨by rfl, ?_⟩) (by assumption) ?_
      rotate_left
      ·intro wq hSw; (try dsimp only at hSw); go_simp; (try with_reducible rfl)
      (try simp only [Act.put, List.setIfInBounds_toArray, List.set_cons_zero, List.set_cons_succ])
      refine wpAnyH_ready (rs := [10]) (by kernel_rfl) (by simp) ?_
      refine AllReadyH.cons (o := ⟨some 80, _, _, _, _, _⟩) rfl (fun K hK => ?_) AllReadyH.nil
      go_simp
      refine Calls.mono hex.out ?_
      rintro en w4 ⟨rfl, k4⟩
      have kw4 := hide (grow_step k4 kw2.out)
      (try go_wp2_with fail)
      refine hK.out _ _ ?_ ?_
      ·(try dsimp only); exact hSS.out _ kw4.out
      clear hK K hHeld; intro hHeld
      (try simp only [Act.put, List.setIfInBounds_toArray, List.set_cons_zero, List.set_cons_succ])
      refine wpAnyH_ready (rs := [11]) (by kernel_rfl) (by simp) ?_
      refine AllReadyH.cons (o := ⟨some 81, _, _, _, _, _⟩) rfl (fun K hK => ?_) AllReadyH.nil
      go_simp
      refine hK.out _ _ ?_ ?_
      ·(try dsimp only); exact hSS.out _ kw4.out
      clear hK K hHeld; intro hHeld
      (try simp only [Act.put, List.setIfInBounds_toArray, List.set_cons_zero, List.set_cons_succ])
      refine wpAnyH_done (by kernel_rfl) ?_ _
      clear hSS hex kw2 k4
      go_wp2
      go_roundw
      case measure => simp [intOf]; omega
      case rel => exact ⟨j + 1, by omega, by first | rfl | trivial, kw4⟩
     ·obtain rfl : j = kn := by omega
      have hlt : decide ((j : Int) < (j : Int)) = false := by simp
      go_wp2
      go_ret
      exact ⟨rfl, hz.out.symm ▸ hb2.out.trans (kw.out.mono hbW2)⟩
end Sx
end Go.Proofs.YtgpaajolcpgeaaaGreatDoor

namespace Go.Proofs.YtgpaajolcpgeaaaGreatDoor
open Go.RowKit
namespace Sx

abbrev P2 := Tr × Tr
/-- the pairs of the kids -/
def kz (p : P2) : List P2 := (ksO p.1).zip (ksO p.2)
/-- the same, so many levels deep -/
def smF : Nat → P2 → Bool
 | 0, _ => true
 | f + 1, p => alB p.1 p.2 && (kz p).all (smF f)
/-- the same -/
def Sm (p : P2) : Prop := ∀ f, smF f p = true
theorem Sm.al {p : P2} (h : Sm p) : alB p.1 p.2 = true := by
 have := h 1
 unfold smF at this
 rw [Bool.and_eq_true] at this
 exact this.1
theorem Sm.kid {p q : P2} (h : Sm p) (hq : q ∈ kz p) : Sm q := fun f => by
 have := h (f + 1)
 unfold smF at this
 rw [Bool.and_eq_true, List.all_eq_true] at this
 exact this.2 q hq
theorem alB_self (t : Tr) : alB t t = true := by
 simp [alB, cmpI]
theorem kz_self {t : Tr} {q : P2} (h : q ∈ kz (t, t)) : q.1 = q.2 := by
 unfold kz at h
 revert h
 generalize ksO t = l
 induction l with
 | nil => intro h; cases h
 | cons a l ih =>
  intro h
  rw [List.zip_cons_cons] at h
  rcases List.mem_cons.1 h with rfl | h
  ·rfl
  ·exact ih h
/-- what is visited, what lies on the stack, what is left of a list -/
structure SmD (f N : Nat) (p : P2) (vis : List P2) (LL : List (List P2)) (R : List P2) : Prop where
 fit : Sm p → ∀ q, (q ∈ vis ∨ q ∈ LL.flatten ∨ q ∈ R) → Sm q
 one : p ∈ vis ∨ p ∈ LL.flatten ∨ p ∈ R
 ali : ∀ q ∈ vis, alB q.1 q.2 = true
 cls : ∀ q ∈ vis, ∀ r ∈ kz q, r.1 = r.2 ∨ r ∈ vis ∨ r ∈ LL.flatten ∨ r ∈ R
 dep : ∀ q, (q ∈ LL.flatten ∨ q ∈ R) → ¬ Dp f q.1
 cnt : vis.length + (cnL f (LL.flatten.map Prod.fst) + cnL f (R.map Prod.fst)) ≤ N
theorem smD_first {f : Nat} {p : P2} (h : ¬ Dp f p.1) : SmD f (cntF f p.1) p [] [[p]] [] where
 fit hp q hq := by
  rcases hq with hq | hq | hq
  ·cases hq
  ·simp at hq
   exact hq ▸ hp
  ·cases hq
 one := .inr (.inl (by simp))
 ali q hq := by cases hq
 cls q hq := by cases hq
 dep q hq := by
  rcases hq with hq | hq
  ·simp at hq
   exact hq ▸ h
  ·cases hq
 cnt := by simp [cnL]
theorem SmD.pop {f N : Nat} {p : P2} {vis : List P2} {LL : List (List P2)} {L : List P2} (h : SmD f N p vis (LL ++ [L]) []) : SmD f N p vis LL L := by
 have e : (LL ++ [L]).flatten = LL.flatten ++ L := by simp
 have mv : ∀ q, (q ∈ (LL ++ [L]).flatten ∨ q ∈ ([] : List P2)) ↔ (q ∈ LL.flatten ∨ q ∈ L) := fun q => by
  rw [e, List.mem_append]
  simp
 refine ⟨fun hp q hq => h.fit hp q ?_, ?_, h.ali, fun q hq r hr => ?_, fun q hq => h.dep q ((mv q).2 hq), ?_⟩
 ·rcases hq with hq | hq
  ·exact .inl hq
  ·exact .inr ((mv q).2 hq)
 ·rcases h.one with h1 | h1
  ·exact .inl h1
  ·exact .inr ((mv p).1 h1)
 ·rcases h.cls q hq r hr with h1 | h1 | h1
  ·exact .inl h1
  ·exact .inr (.inl h1)
  ·exact .inr (.inr ((mv r).1 h1))
 ·have := h.cnt
  rw [e, List.map_append, cnL_append] at this
  simp [cnL] at this ⊢
  omega
theorem SmD.bad {f N : Nat} {p q : P2} {vis : List P2} {LL : List (List P2)} {R : List P2} (h : SmD f N p vis LL (q :: R)) (hq : alB q.1 q.2 = false) : ¬ Sm p := fun hp => by
 have := (h.fit hp q (.inr (.inr List.mem_cons_self))).al
 rw [hq] at this
 cases this
theorem cnt_fst {f : Nat} {q : P2} {R : List P2} : cnL f ((q :: R).map Prod.fst) = cntF f q.1 + cnL f (R.map Prod.fst) := by
 rw [List.map_cons, cnL_cons]
/-- a pair of which the kids need no look -/
theorem SmD.see {f N : Nat} {p q : P2} {vis : List P2} {LL : List (List P2)} {R : List P2} (h : SmD f N p vis LL (q :: R)) (ha : alB q.1 q.2 = true) (hk : ∀ r ∈ kz q, r.1 = r.2 ∨ r ∈ vis ++ [q] ∨ r ∈ LL.flatten ∨ r ∈ R) : SmD f N p (vis ++ [q]) LL R := by
 have mv : ∀ r, (r ∈ vis ∨ r ∈ LL.flatten ∨ r ∈ q :: R) ↔ (r ∈ vis ++ [q] ∨ r ∈ LL.flatten ∨ r ∈ R) := fun r => by
  rw [List.mem_append, List.mem_cons, List.mem_singleton]
  constructor
  ·rintro (h | h | h | h)
   ·exact .inl (.inl h)
   ·exact .inr (.inl h)
   ·exact .inl (.inr h)
   ·exact .inr (.inr h)
  ·rintro ((h | h) | h | h)
   ·exact .inl h
   ·exact .inr (.inr (.inl h))
   ·exact .inr (.inl h)
   ·exact .inr (.inr (.inr h))
 refine ⟨fun hp r hr => h.fit hp r ((mv r).2 hr), (mv p).1 h.one, fun r hr => ?_, fun r hr s hs => ?_, fun r hr => h.dep r ?_, ?_⟩
 ·rcases List.mem_append.1 hr with hr | hr
  ·exact h.ali r hr
  ·rw [List.mem_singleton.1 hr]
   exact ha
 ·rcases List.mem_append.1 hr with hr | hr
  ·rcases h.cls r hr s hs with h1 | h1
   ·exact .inl h1
   ·exact .inr ((mv s).1 h1)
  ·rw [List.mem_singleton.1 hr] at hs
   exact hk s hs
 ·rcases hr with hr | hr
  ·exact .inl hr
  ·exact .inr (List.mem_cons_of_mem _ hr)
 ·have h1 := h.cnt
  have h2 := cnt_self (h.dep q (.inr List.mem_cons_self))
  rw [cnt_fst] at h1
  rw [List.length_append, List.length_singleton]
  omega
/-- a pair whose kids are laid on the stack -/
theorem SmD.lay {f N : Nat} {p q : P2} {vis : List P2} {LL : List (List P2)} {R : List P2} (h : SmD f N p vis LL (q :: R)) (ha : alB q.1 q.2 = true) : SmD f N p (vis ++ [q]) (LL ++ [kz q]) R := by
 have e : (LL ++ [kz q]).flatten = LL.flatten ++ kz q := by simp
 have hq : q ∈ q :: R := List.mem_cons_self
 have hd := h.dep q (.inr hq)
 have fsub : ∀ r ∈ kz q, r.1 ∈ ksO q.1 := fun r hr => (List.of_mem_zip (a := r.1) (b := r.2) hr).1
 refine ⟨fun hp r hr => ?_, ?_, fun r hr => ?_, fun r hr s hs => ?_, fun r hr => ?_, ?_⟩
 ·have hsq := h.fit hp q (.inr (.inr hq))
  rw [e] at hr
  rcases hr with hr | hr | hr
  ·rcases List.mem_append.1 hr with hr | hr
   ·exact h.fit hp r (.inl hr)
   ·rw [List.mem_singleton.1 hr]; exact hsq
  ·rcases List.mem_append.1 hr with hr | hr
   ·exact h.fit hp r (.inr (.inl hr))
   ·exact hsq.kid hr
  ·exact h.fit hp r (.inr (.inr (List.mem_cons_of_mem _ hr)))
 ·rcases h.one with h1 | h1 | h1
  ·exact .inl (List.mem_append_left _ h1)
  ·exact .inr (.inl (by rw [e]; exact List.mem_append_left _ h1))
  ·rcases List.mem_cons.1 h1 with rfl | h1
   ·exact .inl (List.mem_append_right _ (List.mem_singleton.2 rfl))
   ·exact .inr (.inr h1)
 ·rcases List.mem_append.1 hr with hr | hr
  ·exact h.ali r hr
  ·rw [List.mem_singleton.1 hr]; exact ha
 ·rw [e]
  rcases List.mem_append.1 hr with hr | hr
  ·rcases h.cls r hr s hs with h1 | h1 | h1 | h1
   ·exact .inl h1
   ·exact .inr (.inl (List.mem_append_left _ h1))
   ·exact .inr (.inr (.inl (List.mem_append_left _ h1)))
   ·rcases List.mem_cons.1 h1 with rfl | h1
    ·exact .inr (.inl (List.mem_append_right _ (List.mem_singleton.2 rfl)))
    ·exact .inr (.inr (.inr h1))
  ·rw [List.mem_singleton.1 hr] at hs
   exact .inr (.inr (.inl (List.mem_append_right _ hs)))
 ·rw [e] at hr
  rcases hr with hr | hr
  ·rcases List.mem_append.1 hr with hr | hr
   ·exact h.dep r (.inl hr)
   ·exact dp_kid hd (fsub r hr)
  ·exact h.dep r (.inr (List.mem_cons_of_mem _ hr))
 ·have h1 := h.cnt
  have h2 := cnt_self hd
  have hln : (ksO q.1).length = (ksO q.2).length := by
   unfold alB at ha
   simp only [Bool.and_eq_true, decide_eq_true_eq] at ha
   exact ha.2.2.2.2
  have h3 : (kz q).map Prod.fst = ksO q.1 := by
   unfold kz
   exact List.map_fst_zip (by omega)
  rw [cnt_fst] at h1
  rw [e, List.map_append, cnL_append, h3, List.length_append, List.length_singleton]
  omega
/-- all is looked at: they are the same -/
theorem SmD.all {f N : Nat} {p : P2} {vis : List P2} (h : SmD f N p vis [] []) : Sm p := by
 have key : ∀ g q, (q.1 = q.2 ∨ q ∈ vis) → smF g q = true := by
  intro g
  induction g with
  | zero => exact fun _ _ => rfl
  | succ g ih =>
   intro q hq
   unfold smF
   rw [Bool.and_eq_true, List.all_eq_true]
   rcases hq with hq | hq
   ·obtain ⟨a, b⟩ := q
    dsimp only at hq
    subst hq
    exact ⟨alB_self a, fun r hr => ih r (.inl (kz_self hr))⟩
   ·refine ⟨h.ali q hq, fun r hr => ih r ?_⟩
    rcases h.cls q hq r hr with h1 | h1 | h1 | h1
    ·exact .inl h1
    ·exact .inr h1
    ·cases h1
    ·cases h1
 intro g
 rcases h.one with h1 | h1 | h1
 ·exact key g p (.inr h1)
 ·cases h1
 ·cases h1
end Sx
end Go.Proofs.YtgpaajolcpgeaaaGreatDoor

namespace Go.Proofs.YtgpaajolcpgeaaaGreatDoor
open Go.RowKit
namespace Sx

/-- two spans -/
def sp2 (a : Option Addr) (n : Nat) (b : Option Addr) (m : Nat) : Value := .agg #[.pointer a, .int .i64 n, .pointer b, .int .i64 m]
theorem half_0 (a : Option Addr) (n : Int) (b : Option Addr) (m : Int) (w : World) : (part 89 #[.pointer a, .int .i64 n, .pointer b, .int .i64 m] 0).run Tryz.prog w = .ok (.agg #[.pointer a, .int .i64 n]) w := by kernel_rfl
theorem half_1 (a : Option Addr) (n : Int) (b : Option Addr) (m : Int) (w : World) : (part 89 #[.pointer a, .int .i64 n, .pointer b, .int .i64 m] 2).run Tryz.prog w = .ok (.agg #[.pointer b, .int .i64 m]) w := by kernel_rfl
theorem range_two : List.range' 0 2 = [0, 1] := id rfl
/-- two lists of kids as a key -/
def SpK2 (F : Nat → Prop) (w : World) (v : Value) : Prop := ∃ a n b m, v = sp2 a n b m ∧ Un F w a ∧ Un F w b
theorem chk_two (em : Bool) (a : Option Addr) (n : Nat) (b : Option Addr) (m : Nat) (w : World) : (Instr.checkKey em 10000 91 (sp2 a n b m)).run Tryz.prog w = .ok () w := by
 have h1 : ∀ (d : Nat) (a : Option Addr) (n : Nat), (Instr.checkKey em (d + 1 + 1) 89 (.agg #[.pointer a, .int .i64 n])).run Tryz.prog w = .ok () w := fun d a n => by
  simp [Instr.checkKey, run_underlying Tryz.underlying89, run_underlying Tryz.underlying3, run_underlying Tryz.underlying87, part_0, part_1]
 have h : ∀ d : Nat, (Instr.checkKey em (d + 1 + 1 + 1) 91 (sp2 a n b m)).run Tryz.prog w = .ok () w := fun d => by
  rw [Instr.checkKey]
  simp only [sp2]
  have g1 : ∀ (a : Option Addr) (n : Nat), (Instr.checkKey em (d + 2) 89 (.agg #[.pointer a, .int .i64 n])).run Tryz.prog w = .ok () w := h1 d
  simp [run_underlying Tryz.underlying91, range_two, half_0, half_1, g1]
 exact h 9997
theorem eq_two {F : Nat → Prop} {w : World} {a b c e : Option Addr} (n m k l : Nat) (ha : Un F w a) (hb : Un F w b) (hc : Un F w c) (he : Un F w e) : (Op.equal 91 (sp2 a n b m) (sp2 c k e l)).run Tryz.prog w = .ok ((decide (a = c) && ((n : Int) == (k : Int))) && (decide (b = e) && ((m : Int) == (l : Int)))) w := by
 have hst : (Tryz.prog.stoodInHeld 89) = false := by kernel_rfl
 have h1 : ∀ (d : Nat) {a b : Option Addr} (n m : Nat), Un F w a → Un F w b → (Op.equalIn (d + 1 + 1) 89 (.agg #[.pointer a, .int .i64 n]) (.agg #[.pointer b, .int .i64 m])).run Tryz.prog w = .ok (decide (a = b) && ((n : Int) == (m : Int))) w := fun d {a b} n m ha hb => by
  have h1 := eq_ptr ha hb d
  have h2 := eq_i n m w d
  rw [Op.equalIn]
  simp [run_underlying Tryz.underlying89, hst, part_0, part_1, h1, h2]
  by_cases e1 : a = b
  ·by_cases e2 : (n : Int) = (m : Int)
   ·simp [e1, e2]
   ·simp [e1, e2]
  ·simp [e1]
 have h : ∀ d : Nat, (Op.equalIn (d + 1 + 1 + 1) 91 (sp2 a n b m) (sp2 c k e l)).run Tryz.prog w = .ok ((decide (a = c) && ((n : Int) == (k : Int))) && (decide (b = e) && ((m : Int) == (l : Int)))) w := fun d => by
  have g1 : (Op.equalIn (d + 2) 89 (.agg #[.pointer a, .int .i64 n]) (.agg #[.pointer c, .int .i64 k])).run Tryz.prog w = .ok (decide (a = c) && ((n : Int) == (k : Int))) w := h1 d n k ha hc
  have g2 : (Op.equalIn (d + 2) 89 (.agg #[.pointer b, .int .i64 m]) (.agg #[.pointer e, .int .i64 l])).run Tryz.prog w = .ok (decide (b = e) && ((m : Int) == (l : Int))) w := h1 d m l hb he
  rw [Op.equalIn]
  simp only [sp2]
  generalize (decide (a = c) && ((n : Int) == (k : Int))) = x1 at *
  generalize (decide (b = e) && ((m : Int) == (l : Int))) = x2 at *
  cases x1 <;> cases x2 <;> simp [run_underlying Tryz.underlying91, range_two, half_0, half_1, g1, g2]
 exact h 9997
theorem ky_two (F : Nat → Prop) (w : World) : Ky 91 (SpK2 F w) w := ky_wide (fun x es => run_findKey_eq w (by rw [Tryz.underlying91]) x es) (by
  rintro v em ⟨a, n, b, m, rfl, -⟩
  exact chk_two em a n b m w) (by
  rintro v u ⟨a, n, b, m, rfl, ha, hb⟩ ⟨c, k, e, l, rfl, hc, he⟩
  refine ⟨_, eq_two n m k l ha hb hc he, ?_⟩
  simp [sp2]
  constructor
  ·rintro ⟨⟨h1, h2⟩, h3, h4⟩
   exact ⟨h1, h2, h3, h4⟩
  ·rintro ⟨h1, h2, h3, h4⟩
   exact ⟨⟨h1, h2⟩, h3, h4⟩) (by
  rintro v ⟨a, n, b, m, rfl, -⟩
  have h : ∀ d : Nat, Instr.sameBits (d + 1) (sp2 a n b m) (sp2 a n b m) = true := fun d => by simp [Instr.sameBits, sp2]
  exact h 9999)
theorem SpK2.kept {F : Nat → Prop} {w w' : World} {v : Value} (h : SpK2 F w v) (hb : ∀ b, F b → Ub w b → w'.heap[b]? = w.heap[b]?) : SpK2 F w' v := by
 obtain ⟨a, n, b, m, e, h1, h2⟩ := h
 exact ⟨a, n, b, m, e, h1.kept hb, h2.kept hb⟩
/-- the pairs of spans that were met -/
abbrev Met2 (F : Nat → Prop) (w : World) (m : Nat) (E : List (Value × Value)) : Prop := Mp (SpK2 F w) w m E
theorem Met2.kf {F : Nat → Prop} {w w' : World} {m : Nat} {E : List (Value × Value)} (h : Met2 F w m E) (hm : w'.heap[m]? = w.heap[m]?) (k : Kf F w w') : Met2 F w' m E := (Mp.kept h hm).imp fun _ hv => hv.kept fun b hb hu => k.block b hb hu.lt
theorem Met2.below {F : Nat → Prop} {w w' : World} {m : Nat} {E : List (Value × Value)} (h : Met2 F w m E) (k : Below w.heap.size w w') : Met2 F w' m E := Met2.kf h (k.block m h.lt) (Kf.of_below k)
theorem Met2.put {F : Nat → Prop} {w : World} {m : Nat} {E : List (Value × Value)} (h : Met2 F w m E) {t e : TypeId} (ht : Tryz.prog.underlying t = some (.map 91 e)) {x : Value} (hx : SpK2 F w x) (v : Value) :
  ∃ w' E', (Instr.mapUpdate t (.map (some m)) x v).run Tryz.prog w = .ok () w' ∧ PutE x v E E' ∧ Met2 F w' m E' ∧ w.grownBy w' (some m) := by
 obtain ⟨w', E', h1, h2, h3, h4⟩ := Mp.put h (ky_two F w) ht hx v
 exact ⟨w', E', h1, h2, h3.imp fun v hv => hv.kept fun b _ hu => h4.block b hu.lt fun e => ub_not_map h hu (Option.some.inj e), h4⟩
end Sx
end Go.Proofs.YtgpaajolcpgeaaaGreatDoor

namespace Go.Proofs.YtgpaajolcpgeaaaGreatDoor
open Go.RowKit
namespace Sx

/-- two slices -/
structure Sl2 where
 a : SlT
 b : SlT
def Sl2.enc (s : Sl2) : List Value := [s.a.val, s.b.val]
theorem infoPair : (Tryz.prog.info? 85).map (fun i => (i.zero, i.size, i.bytes)) = some (some (.agg #[.slice none 0 0, .slice none 0 0]), 2, 48) := by kernel_rfl
/-- the cells of a row of pairs -/
def encp (l : List Sl2) : List Value := l.flatMap Sl2.enc
theorem encp_append (l m : List Sl2) : encp (l ++ m) = encp l ++ encp m := List.flatMap_append
theorem encp_length (l : List Sl2) : (encp l).length = l.length * 2 := by
 induction l with
 | nil => rfl
 | cons x l ih =>
  show (x.enc ++ encp l).length = _
  rw [List.length_append, ih, List.length_cons, show x.enc.length = 2 from rfl]
  omega
theorem encp_get {l : List Sl2} : ∀ {i : Nat} (h : i < l.length) {j : Nat}, j < 2 → (encp l)[i * 2 + j]? = (l[i]).enc[j]? := by
 induction l with
 | nil => exact fun h => absurd h (by simp)
 | cons x l ih =>
  intro i h j hj
  show (x.enc ++ encp l)[i * 2 + j]? = _
  cases i with
  | zero =>
   rw [List.getElem?_append_left (by show 0 * 2 + j < 2; omega), Nat.zero_mul, Nat.zero_add]
   rfl
  | succ i =>
   rw [List.getElem?_append_right (by show 2 ≤ (i + 1) * 2 + j; omega), show (i + 1) * 2 + j - x.enc.length = i * 2 + j by show (i + 1) * 2 + j - 2 = _; omega, ih (by simpa using h) hj]
   rfl
theorem encp_one (x : Sl2) : ∀ u ∈ x.enc, u.oneCell' = true := by
 intro u hu
 simp only [Sl2.enc, List.mem_cons, List.not_mem_nil, or_false] at hu
 rcases hu with rfl | rfl <;> rfl
/-- append of a pair to a row of one's own -/
theorem appP {w : World} {ops : Array Oper} {rest : List Oper} {o : Oper} {a : Act} {Q : Exit → Act → World → Prop} (hgd : o.guard = none) (s x : Operand) (ho : o.op = .call { callee := .builtin .append, args := #[s, x], argTypes := #[86, 86] }) (base : Nat) (v : Value) (n : Nat) (l : List Sl2) (hs : a.eval s = v) (hown : w.ownsRow base 85 2 v n (encp l))
  (t : Sl2) (g : Nat) (hx : a.eval x = .slice (some ⟨g, 0, none⟩) 1 1) (hc : ∀ j u, t.enc[j]? = some u → w.cell? ⟨g, j, none⟩ = some u) (h63 : n + 1 ≤ 1099511627776) (hbase : base ≤ w.heap.size)
  (h : ∀ v' w', w'.ownsRow base 85 2 v' (n + 1) (encp (l ++ [t])) → w.grownBy w' v.ownBlock → (v'.ownBlock = v.ownBlock ∨ v'.ownBlock = some w.heap.size) → wpList Tryz.prog ops Q rest (a.put o.dst v') w') : wpList Tryz.prog ops Q (o :: rest) a w := by
 obtain ⟨i0, hi, hz0, hz1, hz2⟩ := info_parts infoPair
 refine wpList_append_own_at w hgd s x 86 ho base 85 i0 _ 2 48 Tryz.underlying86 hi hz0 hz1 hz2 rfl (by decide) v n (encp l) hs hown ⟨g, 0, none⟩ 1 1 t.enc hx rfl (fun j u hu => ?_) (encp_one t) (by unfold maxLen; omega) (by omega) hbase ?_
 ·rw [show (⟨g, 0, none⟩ : Addr).add j = ⟨g, j, none⟩ by unfold Addr.add; split <;> simp_all]
  exact hc j u hu
 ·intro v' w' h1 h2 _ h4
  refine h v' w' ?_ h2 h4
  rw [encp_append, show encp [t] = t.enc by simp [encp]]
  exact h1
/-- a row of one's own reads -/
theorem own_pairs {w : World} {base n : Nat} {v : Value} {l : List Sl2} (h : w.ownsRow base 85 2 v n (encp l)) : l.length = n ∧ ∃ a c, v = .slice a n c ∧ (n = 0 ∨ ∃ g, a = some ⟨g, 0, none⟩ ∧ base ≤ g ∧ Ub w g ∧ v.ownBlock = some g ∧ n ≤ c ∧ ∀ i (h : i < l.length) j, j < 2 → w.cell? ⟨g, 0 + i * 2 + j, none⟩ = (l[i]).enc[j]?) := by
 have hn : l.length = n := by have := h.1; rw [encp_length] at this; omega
 refine ⟨hn, ?_⟩
 rcases h.2 with ⟨rfl, rfl⟩ | ⟨g, cap, cur, rfl, hb, hg, hc, hm, hs, ht⟩
 ·exact ⟨none, 0, rfl, .inl rfl⟩
 ·refine ⟨_, cap, rfl, .inr ⟨g, rfl, hb, ⟨_, _, hg⟩, rfl, hc, fun i hi j hj => ?_⟩⟩
  rw [cell_of_row w g (0 + i * 2 + j) _ _ (0, 0) hg, Nat.zero_add, ← encp_get hi hj, ← ht, List.getElem?_take, if_pos (by omega)]
  simp
/-- a pair of lists in memory -/
def KP (F : Nat → Prop) (w : World) (s : Sl2) (L : List P2) : Prop := KL F w s.a (L.map Prod.fst) ∧ KL F w s.b (L.map Prod.snd)
theorem KP.kf {F : Nat → Prop} {w w' : World} {s : Sl2} {L : List P2} (h : KP F w s L) (k : Kf F w w') : KP F w' s L := ⟨KL.kf h.1 k, KL.kf h.2 k⟩
/-- pairs of lists, one by one -/
def Prp (F : Nat → Prop) (w : World) (q : List Sl2) (LL : List (List P2)) : Prop := q.length = LL.length ∧ ∀ (i : Nat) (s : Sl2) (L : List P2), q[i]? = some s → LL[i]? = some L → KP F w s L
theorem Prp.kf {F : Nat → Prop} {w w' : World} {q : List Sl2} {LL : List (List P2)} (h : Prp F w q LL) (k : Kf F w w') : Prp F w' q LL := ⟨h.1, fun i s L h1 h2 => (h.2 i s L h1 h2).kf k⟩
theorem prp_nil (F : Nat → Prop) (w : World) : Prp F w [] [] := ⟨rfl, fun i s L h => by simp at h⟩
theorem Prp.snoc {F : Nat → Prop} {w : World} {q : List Sl2} {LL : List (List P2)} {s : Sl2} {L : List P2} (h : Prp F w q LL) (hx : KP F w s L) : Prp F w (q ++ [s]) (LL ++ [L]) := by
 refine ⟨by simp [h.1], fun i y u h1 h2 => ?_⟩
 by_cases hi : i < q.length
 ·rw [List.getElem?_append_left hi] at h1
  rw [List.getElem?_append_left (by rw [← h.1]; exact hi)] at h2
  exact h.2 i y u h1 h2
 ·rw [List.getElem?_append_right (by omega)] at h1
  rw [List.getElem?_append_right (by have := h.1; omega), ← h.1] at h2
  match hj : i - q.length with
  | 0 =>
   rw [hj] at h1 h2
   cases h1
   cases h2
   exact hx
  | k + 1 =>
   rw [hj] at h1
   simp at h1
theorem prp_pop {F : Nat → Prop} {w : World} {q : List Sl2} {s : Sl2} {LL : List (List P2)} {L : List P2} (h : Prp F w (q ++ [s]) (LL ++ [L])) : Prp F w q LL ∧ KP F w s L := by
 have hl : q.length = LL.length := by have := h.1; simp at this; exact this
 refine ⟨⟨hl, fun i s' L' h1 h2 => h.2 i s' L' ?_ ?_⟩, h.2 q.length s L (by simp) (by rw [hl]; simp)⟩
 ·rw [List.getElem?_append_left (List.getElem?_eq_some_iff.1 h1).1, h1]
 ·rw [List.getElem?_append_left (List.getElem?_eq_some_iff.1 h2).1, h2]
/-- WHAT SAME HOLDS: its stack, its map; each pair that was met is among S -/
structure SmM (F : Nat → Prop) (base m : Nat) (v : Value) (wr : World) (q : List Sl2) (LL : List (List P2)) (E : List (Value × Value)) (S : P2 → Prop) : Prop where
 own : wr.ownsRow base 85 2 v q.length (encp q)
 pr : Prp F wr q LL
 met : Met2 F wr m E
 key : ∀ p ∈ E, ∃ (s1 s2 : SlT) (L1 L2 : List Tr), p.1 = sp2 s1.ka s1.kn s2.ka s2.kn ∧ KL F wr s1 L1 ∧ KL F wr s2 L2 ∧ ∀ r ∈ L1.zip L2, S r
theorem SmM.imp {F : Nat → Prop} {base m : Nat} {v : Value} {wr : World} {q : List Sl2} {LL : List (List P2)} {E : List (Value × Value)} {S S' : P2 → Prop} (h : SmM F base m v wr q LL E S) (hS : ∀ r, S r → S' r) : SmM F base m v wr q LL E S' :=
 ⟨h.own, h.pr, h.met, fun p hp => by
  obtain ⟨s1, s2, L1, L2, e, h1, h2, h3⟩ := h.key p hp
  exact ⟨s1, s2, L1, L2, e, h1, h2, fun r hr => hS r (h3 r hr)⟩⟩
theorem SmM.below {F : Nat → Prop} {base m : Nat} {v : Value} {wr w' : World} {q : List Sl2} {LL : List (List P2)} {E : List (Value × Value)} {S : P2 → Prop} (h : SmM F base m v wr q LL E S) (k : Below wr.heap.size wr w') : SmM F base m v w' q LL E S where
 own := h.own.kept (gb_of (m := w'.heap.size) k) (by
  rcases Option.eq_none_or_eq_some v.ownBlock with e | ⟨b, e⟩
  ·exact .inl e
  ·refine .inr fun e2 => ?_
   have := (h.own.lt b e).2
   have := k.size
   rw [e] at e2
   cases e2
   omega)
 pr := h.pr.kf (Kf.of_below k)
 met := h.met.below k
 key := fun p hp => by
  obtain ⟨s1, s2, L1, L2, e, h1, h2, h3⟩ := h.key p hp
  exact ⟨s1, s2, L1, L2, e, KL.kf h1 (Kf.of_below k), KL.kf h2 (Kf.of_below k), h3⟩
/-- two lists that were met -/
theorem SmM.known {F : Nat → Prop} {base m : Nat} {v : Value} {wr : World} {q : List Sl2} {LL : List (List P2)} {E : List (Value × Value)} {S : P2 → Prop} (h : SmM F base m v wr q LL E S) {F1 F2 : Nat → Prop} {s1 s2 : SlT} {L1 L2 : List Tr} (h1 : KL F1 wr s1 L1) (h2 : KL F2 wr s2 L2) (hm : ∃ u, (sp2 s1.ka s1.kn s2.ka s2.kn, u) ∈ E) : ∀ r ∈ L1.zip L2, S r := by
 obtain ⟨u, hu⟩ := hm
 obtain ⟨t1, t2, M1, M2, e, g1, g2, g3⟩ := h.key _ hu
 simp only [sp2, Value.agg.injEq, Array.mk.injEq, List.cons.injEq, Value.pointer.injEq, Value.int.injEq, true_and, and_true] at e
 obtain ⟨e1, e2, e3, e4⟩ := e
 have e2' : s1.kn = t1.kn := by omega
 have e4' : s2.kn = t2.kn := by omega
 unfold KL at h1 h2 g1 g2
 rw [e1, e2'] at h1
 rw [e3, e4'] at h2
 rw [rk_only h1 g1, rk_only h2 g2]
 exact g3
end Sx
end Go.Proofs.YtgpaajolcpgeaaaGreatDoor

namespace Go.Proofs.YtgpaajolcpgeaaaGreatDoor
open Go.RowKit
open Go.ChangeMaps (setBlock heap_setBlock_same heap_setBlock_other)
namespace Sx

/-- what delete makes of the entries -/
def DelE (k : Value) (E E' : List (Value × Value)) : Prop := ((∀ p ∈ E, p.1 ≠ k) ∧ E' = E) ∨ ∃ E1 v0 E2, E = E1 ++ (k, v0) :: E2 ∧ E' = E1 ++ E2
theorem Mp.del {k t e : TypeId} {V : Value → Prop} {w : World} {m : Nat} {E : List (Value × Value)} (h : Mp V w m E) (K : Ky k V w) (ht : Tryz.prog.underlying t = some (.map k e)) {x : Value} (hx : V x) (ty : TypeId) :
  ∃ w' E', (Builtin.delete_ #[t, k] ty #[.map (some m), x]).run Tryz.prog w = .ok (.tuple #[]) w' ∧ DelE x E E' ∧ Mp V w' m E' ∧ w.grownBy w' (some m) := by
 obtain ⟨⟨es, clock, hb, rfl⟩, hV, hd⟩ := h
 have hk : ∀ e ∈ es.toList, V e.key := fun e he => hV (e.key, e.val) (List.mem_map.2 ⟨e, he, rfl⟩)
 have hgr : ∀ es' clock', w.grownBy (setBlock w m (.map es' clock')) (some m) := fun es' clock' => ⟨rfl, rfl, rfl, by simp [setBlock], fun i _ hi => heap_setBlock_other hb _ (fun e => hi (by rw [e]))⟩
 rcases K.find x es.toList hx hk with ⟨h1, h2⟩ | ⟨l1, e0, l2, h0, h1, h2⟩
 ·refine ⟨setBlock w m (.map es clock), _, ?_, .inl ⟨?_, rfl⟩, ⟨⟨_, _, heap_setBlock_same hb _, rfl⟩, hV, hd⟩, hgr _ _⟩
  ·simp [Builtin.delete_, run_underlying ht, MapKept.run_getObj_map hb, K.chk x _ hx, h1, MapKept.run_setObj_map _ hb, Result.andThen, setBlock]
  ·intro p hp
   obtain ⟨e, he, rfl⟩ := List.mem_map.1 hp
   exact h2 e he
 ·have hE : es.toList.map (fun e => (e.key, e.val)) = l1.map (fun e => (e.key, e.val)) ++ (x, e0.val) :: l2.map (fun e => (e.key, e.val)) := by rw [h0, List.map_append, List.map_cons, h2]
  have hm : (es.eraseIdxIfInBounds l1.length).toList = l1 ++ l2 := by
   rw [Array.toList_eraseIdxIfInBounds, h0, List.eraseIdx_append_of_length_le (Nat.le_refl _), Nat.sub_self]
   rfl
  refine ⟨setBlock w m (.map (es.eraseIdxIfInBounds l1.length) clock), _, ?_, .inr ⟨_, _, _, hE, rfl⟩, ⟨⟨_, _, heap_setBlock_same hb _, by rw [hm, List.map_append]⟩, ?_, ?_⟩, hgr _ _⟩
  ·simp [Builtin.delete_, run_underlying ht, MapKept.run_getObj_map hb, K.chk x _ hx, h1, MapKept.run_setObj_map _ hb, Result.andThen, setBlock]
  ·intro p hp
   rw [hE] at hV
   rcases List.mem_append.1 hp with hp | hp
   ·exact hV p (by simp [hp])
   ·exact hV p (by simp [hp])
  ·rw [hE] at hd
   rw [List.pairwise_append, List.pairwise_cons] at hd
   rw [List.pairwise_append]
   exact ⟨hd.1, hd.2.1.2, fun r hr s hs => hd.2.2 r hr s (by simp [hs])⟩
end Sx
end Go.Proofs.YtgpaajolcpgeaaaGreatDoor

namespace Go.Proofs.YtgpaajolcpgeaaaGreatDoor
open Go.RowKit
namespace Sx

end Sx
end Go.Proofs.YtgpaajolcpgeaaaGreatDoor

namespace Go.Proofs.YtgpaajolcpgeaaaGreatDoor
open Go.RowKit
namespace Sx

theorem al_nd {P : Lab → Prop} {l : Lab} {ks : List Tr} (h : P l) (hk : ∀ k ∈ ks, Al P k) : Al P (nd l ks) := by
 intro n u hu
 cases n with
 | zero =>
  cases hu
  exact h
 | succ n =>
  obtain ⟨k, hm, h2⟩ := hu
  exact hk k hm n u h2
theorem nms_suf : ∀ ts : List TD, (nms ts).2 <:+ ts := by
 intro ts
 induction ts with
 | nil => exact List.suffix_refl _
 | cons t ts ih =>
  unfold nms
  split
  ·exact ih.trans (List.suffix_cons _ _)
  ·exact List.suffix_refl _
theorem al_row {P : Lab → Prop} {k : Int} {acc : List Tr} (h : P (lk k)) (ha : ∀ a ∈ acc, Al P a) : Al P (row k acc) := by
 match acc with
 | [] => exact al_nd h ha
 | [t] => exact ha t (by simp)
 | t :: u :: l => exact al_nd h ha
/-- what the labels must be -/
structure LbOk (P : Lab → Prop) (ts0 : List TD) : Prop where
 pl : ∀ k, P (lk k)
 ns : ∀ ts, ts <:+ ts0 → ∀ k, P ⟨k, ⟨#[]⟩, (nms ts).1, false, []⟩
 nu : ∀ t ∈ ts0, ∀ k, P ⟨k, ⟨#[]⟩, [], false, cl t.num⟩
 nm : ∀ t ∈ ts0, P ⟨2, t.text, [], false, []⟩
theorem gr_all {e : Nat} {P : Lab → Prop} {ts0 : List TD} (hP : LbOk P ts0) (n : Nat) : ∀ {tag : Nat} {acc : List Tr} {ts : List TD} {t : Tr} {q : List TD}, Gr e n tag acc ts = some (.inr (t, q)) → ts <:+ ts0 → (∀ a ∈ acc, Al P a) → Al P t ∧ q <:+ ts0 := by
 induction n with
 | zero => exact fun h => by cases h
 | succ n ih =>
  intro tag acc ts t q h hs ha
  have tl : ∀ {r : List TD}, r <:+ ts0 → r.tail <:+ ts0 := fun hr => (List.tail_suffix _).trans hr
  have ih0 : ∀ {tag : Nat} {ts : List TD} {t : Tr} {q : List TD}, Gr e n tag [] ts = some (.inr (t, q)) → ts <:+ ts0 → Al P t ∧ q <:+ ts0 := fun h hs => ih h hs (by simp)
  have one : ∀ {u : Tr}, Al P u → ∀ a ∈ [u], Al P a := fun hu a h => by rw [List.mem_singleton.1 h]; exact hu
  have two : ∀ {u v : Tr}, Al P u → Al P v → ∀ a ∈ [u, v], Al P a := fun hu hv a h => by
   rcases List.mem_cons.1 h with rfl | h
   ·exact hu
   ·rw [List.mem_singleton.1 h]; exact hv
  have more : ∀ {u : Tr}, Al P u → ∀ a ∈ acc ++ [u], Al P a := fun hu a h => by
   rcases List.mem_append.1 h with h | h
   ·exact ha a h
   ·rw [List.mem_singleton.1 h]; exact hu
  match tag with
  | 0 =>
   obtain ⟨u, r, h1, h2⟩ := th_inr h
   obtain ⟨p1, p2⟩ := ih0 h1 hs
   exact ih h2 p2 (one p1)
  | 1 =>
   simp only [Gr] at h
   split at h
   ·obtain ⟨u, r, h1, h2⟩ := th_inr h
    obtain ⟨p1, p2⟩ := ih0 h1 (tl hs)
    exact ih h2 p2 (one (al_nd (hP.pl 20) (more p1)))
   ·cases h
    exact ⟨al_row (hP.pl 20) ha, hs⟩
  | 2 =>
   obtain ⟨u, r, h1, h2⟩ := th_inr h
   obtain ⟨p1, p2⟩ := ih0 h1 hs
   (try dsimp only at h2)
   split at h2
   ·obtain ⟨v, s, h3, h4⟩ := th_inr h2
    obtain ⟨p3, p4⟩ := ih0 h3 (tl p2)
    cases h4
    exact ⟨al_nd (hP.pl 19) (two p1 p3), p4⟩
   ·cases h2
    exact ⟨p1, p2⟩
  | 3 =>
   obtain ⟨u, r, h1, h2⟩ := th_inr h
   obtain ⟨p1, p2⟩ := ih0 h1 hs
   exact ih h2 p2 (one p1)
  | 4 =>
   simp only [Gr] at h
   split at h
   ·obtain ⟨u, r, h1, h2⟩ := th_inr h
    obtain ⟨p1, p2⟩ := ih0 h1 (tl hs)
    exact ih h2 p2 (more p1)
   ·cases h
    exact ⟨al_row (hP.pl 18) ha, hs⟩
  | 5 =>
   obtain ⟨u, r, h1, h2⟩ := th_inr h
   obtain ⟨p1, p2⟩ := ih0 h1 hs
   exact ih h2 p2 (one p1)
  | 6 =>
   simp only [Gr] at h
   split at h
   ·obtain ⟨u, r, h1, h2⟩ := th_inr h
    obtain ⟨p1, p2⟩ := ih0 h1 (tl hs)
    exact ih h2 p2 (more p1)
   ·cases h
    exact ⟨al_row (hP.pl 17) ha, hs⟩
  | 7 =>
   simp only [Gr] at h
   split at h
   ·obtain ⟨u, r, h1, h2⟩ := th_inr h
    obtain ⟨p1, p2⟩ := ih0 h1 (tl hs)
    cases h2
    exact ⟨al_nd (hP.pl 16) (one p1), p2⟩
   ·split at h
    ·split at h
     ·cases h
     ·obtain ⟨u, r, h1, h2⟩ := th_inr h
      obtain ⟨p1, p2⟩ := ih0 h1 (tl ((nms_suf _).trans (tl hs)))
      cases h2
      exact ⟨al_nd (hP.ns _ (tl hs) _) (one p1), p2⟩
    ·exact ih0 h hs
  | 8 =>
   rw [gr8] at h
   split at h
   ·cases h
    exact ⟨al_nd (hP.pl _) (by simp), tl hs⟩
   ·split at h
    ·obtain ⟨u, r, h1, h2⟩ := th_inr h
     obtain ⟨p1, p2⟩ := ih0 h1 (tl hs)
     (try dsimp only at h2)
     split at h2
     ·cases h2
      exact ⟨p1, tl p2⟩
     ·cases h2
    ·split at h
     ·cases ts with
      | nil => cases h
      | cons x r =>
       dsimp only at h
       split at h
       ·cases h
       ·obtain ⟨u, r', h1, h2⟩ := th_inr h
        obtain ⟨p1, p2⟩ := ih0 h1 (tl (tl hs))
        cases h2
        exact ⟨al_nd (hP.nu x (hs.subset List.mem_cons_self) _) (one p1), p2⟩
     ·obtain ⟨u, r, h1, h2⟩ := th_inr h
      obtain ⟨p1, p2⟩ := ih0 h1 hs
      (try dsimp only at h2)
      split at h2
      ·cases h2
      ·obtain ⟨v, s, h3, h4⟩ := th_inr h2
       obtain ⟨p3, p4⟩ := ih0 h3 (tl p2)
       cases h4
       exact ⟨al_nd (hP.pl _) (two p1 p3), p4⟩
  | 9 =>
   obtain ⟨u, r, h1, h2⟩ := th_inr h
   obtain ⟨p1, p2⟩ := ih0 h1 hs
   exact ih h2 p2 (one p1)
  | 10 =>
   simp only [Gr] at h
   split at h
   ·obtain ⟨u, r, h1, h2⟩ := th_inr h
    obtain ⟨p1, p2⟩ := ih0 h1 (tl hs)
    exact ih h2 p2 (one (al_nd (hP.pl _) (more p1)))
   ·cases h
    exact ⟨al_row (hP.pl 4) ha, hs⟩
  | k + 11 =>
   rw [gr11] at h
   split at h
   ·obtain ⟨u, r, h1, h2⟩ := th_inr h
    obtain ⟨p1, p2⟩ := ih0 h1 (tl hs)
    cases h2
    exact ⟨al_nd (hP.pl 3) (one p1), p2⟩
   ·split at h
    ·obtain ⟨u, r, h1, h2⟩ := th_inr h
     obtain ⟨p1, p2⟩ := ih0 h1 (tl hs)
     (try dsimp only at h2)
     split at h2
     ·cases h2
      exact ⟨p1, tl p2⟩
     ·cases h2
    ·split at h
     ·cases ts with
      | nil => cases h
      | cons x r =>
       have hx := hs.subset (List.mem_cons_self (a := x) (l := r))
       dsimp only at h
       split at h
       ·obtain ⟨u, r', h1, h2⟩ := th_inr h
        obtain ⟨p1, p2⟩ := ih0 h1 (tl (tl hs))
        cases h2
        exact ⟨al_nd (hP.nu x hx _) (one p1), p2⟩
       ·cases h
        exact ⟨al_nd (hP.nu x hx _) (by simp), tl hs⟩
     ·split at h
      ·rename_i hk2
       cases ts with
       | nil => exact absurd hk2 (by decide)
       | cons x r =>
        cases h
        exact ⟨al_nd (hP.nm x (hs.subset List.mem_cons_self)) (by simp), tl hs⟩
      ·cases h
end Sx
end Go.Proofs.YtgpaajolcpgeaaaGreatDoor

namespace Go.Proofs.YtgpaajolcpgeaaaGreatDoor
open Go.RowKit
namespace Sx

/-- a word but for its place -/
def ky3 (t : TD) : Int × ByteArray × Int := (t.kind, t.text, t.num)
def Sim (ts ts' : List TD) : Prop := ts.map ky3 = ts'.map ky3
theorem Sim.nil {ts' : List TD} (h : Sim [] ts') : ts' = [] := by
 cases ts' with
 | nil => rfl
 | cons a l => cases h
theorem Sim.cons {t : TD} {ts ts' : List TD} (h : Sim (t :: ts) ts') : ∃ t' r', ts' = t' :: r' ∧ t'.kind = t.kind ∧ t'.text = t.text ∧ t'.num = t.num ∧ Sim ts r' := by
 cases ts' with
 | nil => cases h
 | cons a l =>
  unfold Sim at h
  simp only [List.map_cons, List.cons.injEq, ky3, Prod.mk.injEq] at h
  exact ⟨a, l, rfl, h.1.1.symm, h.1.2.1.symm, h.1.2.2.symm, h.2⟩
/-- nothing, or a closing word and what follows -/
def Zo (z : List TD) : Prop := z = [] ∨ (hd z = cls' ∧ hk z ≠ 1 ∧ hk z ≠ 2)
theorem hd_z {ts ts' z : List TD} (h : Sim ts ts') (hz : Zo z) {s : ByteArray} (h1 : s ≠ cls') (h2 : s ≠ ⟨#[]⟩) : hd (ts' ++ z) = s ↔ hd ts = s := by
 cases ts with
 | nil =>
  rw [h.nil, List.nil_append]
  rcases hz with rfl | ⟨hz, -⟩
  ·exact Iff.rfl
  ·rw [hz]
   exact ⟨fun e => absurd e.symm h1, fun e => absurd e.symm h2⟩
 | cons t r =>
  obtain ⟨t', r', rfl, e1, e2, e3, e4⟩ := h.cons
  show t'.text = s ↔ t.text = s
  rw [e2]
theorem hd_c {ts ts' z : List TD} (h : Sim ts ts') (hc : hd ts = cls') : hd (ts' ++ z) = cls' ∧ ∃ r', ts' ++ z = ts' ++ z ∧ (ts' ++ z).tail = r' ++ z ∧ Sim ts.tail r' := by
 cases ts with
 | nil => exact absurd hc (by decide)
 | cons t r =>
  obtain ⟨t', r', rfl, e1, e2, e3, e4⟩ := h.cons
  exact ⟨e2.trans hc, r', rfl, rfl, e4⟩
theorem hk_z {ts ts' z : List TD} (h : Sim ts ts') (hz : Zo z) {k : Int} (h1 : k = 1 ∨ k = 2) : hk (ts' ++ z) = k ↔ hk ts = k := by
 cases ts with
 | nil =>
  rw [h.nil, List.nil_append]
  rcases hz with rfl | ⟨-, z1, z2⟩
  ·exact Iff.rfl
  ·have : hk ([] : List TD) = 0 := rfl
   rw [this]
   rcases h1 with rfl | rfl
   ·exact ⟨fun e => absurd e z1, fun e => by cases e⟩
   ·exact ⟨fun e => absurd e z2, fun e => by cases e⟩
 | cons t r =>
  obtain ⟨t', r', rfl, e1, e2, e3, e4⟩ := h.cons
  show t'.kind = k ↔ t.kind = k
  rw [e1]
theorem tl_z {ts ts' : List TD} (z : List TD) (h : Sim ts ts') (hne : ts ≠ []) : ∃ r', (ts' ++ z).tail = r' ++ z ∧ Sim ts.tail r' := by
 cases ts with
 | nil => exact absurd rfl hne
 | cons t r =>
  obtain ⟨t', r', rfl, e1, e2, e3, e4⟩ := h.cons
  exact ⟨r', rfl, e4⟩
theorem amo_z {ts ts' z : List TD} (h : Sim ts ts') (hz : Zo z) {a n : Nat} (hc : amo a n cls' = 0) (he : amo a n ⟨#[]⟩ = 0) : amo a n (hd (ts' ++ z)) = amo a n (hd ts) := by
 cases ts with
 | nil =>
  rw [h.nil, List.nil_append]
  rcases hz with rfl | ⟨hz, -⟩
  ·rfl
  ·rw [hz, hc]
   exact he.symm
 | cons t r =>
  obtain ⟨t', r', rfl, e1, e2, e3, e4⟩ := h.cons
  show amo a n t'.text = amo a n t.text
  rw [e2]
theorem nms_z {z : List TD} (hz : Zo z) : ∀ {ts ts' : List TD}, Sim ts ts' → (nms (ts' ++ z)).1 = (nms ts).1 ∧ ∃ r', (nms (ts' ++ z)).2 = r' ++ z ∧ Sim (nms ts).2 r' := by
 intro ts
 induction ts with
 | nil =>
  intro ts' h
  rw [h.nil, List.nil_append]
  have : nms z = ([], z) := by
   cases z with
   | nil => rfl
   | cons x l =>
    rcases hz with hz | ⟨-, -, z2⟩
    ·cases hz
    ·unfold nms
     rw [if_neg (show ¬ x.kind = 2 from z2)]
  rw [this]
  exact ⟨rfl, [], rfl, rfl⟩
 | cons t r ih =>
  intro ts' h
  obtain ⟨t', r', rfl, e1, e2, e3, e4⟩ := h.cons
  obtain ⟨i1, r2, i2, i3⟩ := ih e4
  rw [List.cons_append]
  unfold nms
  rw [e1]
  split
  ·exact ⟨by rw [e2, i1], r2, i2, i3⟩
  ·exact ⟨rfl, t' :: r', rfl, h⟩
theorem th_ok {x : Option Res} {f : Tr → List TD → Option Res} {u : Tr} {r : List TD} (h : x = some (.inr (u, r))) : th x f = f u r := by
 rw [h]
 rfl
theorem hd_nn {ts : List TD} {s : ByteArray} (h : hd ts = s) (hs : s ≠ ⟨#[]⟩) : ts ≠ [] := fun e => by
 rw [e] at h
 exact hs h.symm
theorem wd_cls {k : Nat} (h : k ≤ 22) : wd k ≠ cls' := by
 have : ∀ k : Fin 23, (wd k.1 == cls') = false := by decide
 intro e
 have h2 := this ⟨k, by omega⟩
 rw [e] at h2
 revert h2
 decide
/-- IT READS THE SAME -/
theorem gr_z {e e' : Nat} {z : List TD} (hz : Zo z) (n : Nat) : ∀ {tag : Nat} {acc : List Tr} {ts ts' : List TD} {t : Tr} {q : List TD}, Gr e n tag acc ts = some (.inr (t, q)) → Sim ts ts' → ∃ q', Gr e' n tag acc (ts' ++ z) = some (.inr (t, q' ++ z)) ∧ Sim q q' := by
 induction n with
 | zero => exact fun h => by cases h
 | succ n ih =>
  intro tag acc ts ts' t q h hs
  match tag with
  | 0 =>
   obtain ⟨u, r, h1, h2⟩ := th_inr h
   obtain ⟨r', g1, s1⟩ := ih h1 hs
   obtain ⟨q', g2, s2⟩ := ih h2 s1
   exact ⟨q', (th_ok g1).trans g2, s2⟩
  | 1 =>
   simp only [Gr] at h ⊢
   split at h
   ·rename_i hc
    obtain ⟨u, r, h1, h2⟩ := th_inr h
    obtain ⟨r0, e0, s0⟩ := tl_z z hs (hd_nn hc (wd_ne (by decide) (by decide)))
    obtain ⟨r', g1, s1⟩ := ih h1 s0
    obtain ⟨q', g2, s2⟩ := ih h2 s1
    rw [if_pos ((hd_z hs hz (wd_cls (by decide)) (wd_ne (by decide) (by decide))).2 hc), e0]
    exact ⟨q', (th_ok g1).trans g2, s2⟩
   ·rename_i hc
    cases h
    rw [if_neg (fun h => hc ((hd_z hs hz (wd_cls (by decide)) (wd_ne (by decide) (by decide))).1 h))]
    exact ⟨ts', rfl, hs⟩
  | 2 =>
   obtain ⟨u, r, h1, h2⟩ := th_inr h
   obtain ⟨r', g1, s1⟩ := ih h1 hs
   (try dsimp only at h2)
   split at h2
   ·rename_i hc
    obtain ⟨v, s, h3, h4⟩ := th_inr h2
    obtain ⟨r0, e0, s0⟩ := tl_z z s1 (hd_nn hc (wd_ne (by decide) (by decide)))
    obtain ⟨q', g3, s3⟩ := ih h3 s0
    cases h4
    refine ⟨q', (th_ok g1).trans ?_, s3⟩
    (try dsimp only)
    rw [if_pos ((hd_z s1 hz (wd_cls (by decide)) (wd_ne (by decide) (by decide))).2 hc), e0]
    exact th_ok g3
   ·rename_i hc
    cases h2
    refine ⟨r', (th_ok g1).trans ?_, s1⟩
    (try dsimp only)
    rw [if_neg (fun h => hc ((hd_z s1 hz (wd_cls (by decide)) (wd_ne (by decide) (by decide))).1 h))]
  | 3 =>
   obtain ⟨u, r, h1, h2⟩ := th_inr h
   obtain ⟨r', g1, s1⟩ := ih h1 hs
   obtain ⟨q', g2, s2⟩ := ih h2 s1
   exact ⟨q', (th_ok g1).trans g2, s2⟩
  | 4 =>
   simp only [Gr] at h ⊢
   split at h
   ·rename_i hc
    obtain ⟨u, r, h1, h2⟩ := th_inr h
    obtain ⟨r0, e0, s0⟩ := tl_z z hs (hd_nn hc (wd_ne (by decide) (by decide)))
    obtain ⟨r', g1, s1⟩ := ih h1 s0
    obtain ⟨q', g2, s2⟩ := ih h2 s1
    rw [if_pos ((hd_z hs hz (wd_cls (by decide)) (wd_ne (by decide) (by decide))).2 hc), e0]
    exact ⟨q', (th_ok g1).trans g2, s2⟩
   ·rename_i hc
    cases h
    rw [if_neg (fun h => hc ((hd_z hs hz (wd_cls (by decide)) (wd_ne (by decide) (by decide))).1 h))]
    exact ⟨ts', rfl, hs⟩
  | 5 =>
   obtain ⟨u, r, h1, h2⟩ := th_inr h
   obtain ⟨r', g1, s1⟩ := ih h1 hs
   obtain ⟨q', g2, s2⟩ := ih h2 s1
   exact ⟨q', (th_ok g1).trans g2, s2⟩
  | 6 =>
   simp only [Gr] at h ⊢
   split at h
   ·rename_i hc
    obtain ⟨u, r, h1, h2⟩ := th_inr h
    obtain ⟨r0, e0, s0⟩ := tl_z z hs (hd_nn hc (wd_ne (by decide) (by decide)))
    obtain ⟨r', g1, s1⟩ := ih h1 s0
    obtain ⟨q', g2, s2⟩ := ih h2 s1
    rw [if_pos ((hd_z hs hz (wd_cls (by decide)) (wd_ne (by decide) (by decide))).2 hc), e0]
    exact ⟨q', (th_ok g1).trans g2, s2⟩
   ·rename_i hc
    cases h
    rw [if_neg (fun h => hc ((hd_z hs hz (wd_cls (by decide)) (wd_ne (by decide) (by decide))).1 h))]
    exact ⟨ts', rfl, hs⟩
  | 7 =>
   simp only [Gr] at h ⊢
   have hw := hd_z hs hz (s := wd 16) (wd_cls (by decide)) (wd_ne (by decide) (by decide))
   have ha := amo_z hs hz (a := 21) (n := 2) (by decide) (by decide)
   split at h
   ·rename_i hc
    obtain ⟨u, r, h1, h2⟩ := th_inr h
    obtain ⟨r0, e0, s0⟩ := tl_z z hs (hd_nn hc (wd_ne (by decide) (by decide)))
    obtain ⟨r', g1, s1⟩ := ih h1 s0
    cases h2
    rw [if_pos (hw.2 hc), e0]
    exact ⟨r', th_ok g1, s1⟩
   ·rename_i hc
    rw [if_neg (fun h => hc (hw.1 h)), ha]
    split at h
    ·rename_i hq
     rw [if_pos hq]
     obtain ⟨r0, e0, s0⟩ := tl_z z hs (hd_nn rfl (amo_some (by decide) (by decide) hq))
     obtain ⟨n1, r1, n2, s1⟩ := nms_z hz s0
     rw [e0, n1, n2]
     split at h
     ·cases h
     ·rename_i hd0
      have hdt : hd (nms ts.tail).2 = dot := by
       by_cases h9 : hd (nms ts.tail).2 = dot
       ·exact h9
       ·exact absurd (.inr h9) hd0
      have hd1 : hd (r1 ++ z) = dot := (hd_z s1 hz (by decide) (by decide)).2 hdt
      obtain ⟨u, r, h1, h2⟩ := th_inr h
      obtain ⟨r2, e2, s2⟩ := tl_z z s1 (hd_nn hdt dot_ne)
      obtain ⟨q', g1, s3⟩ := ih h1 s2
      cases h2
      rw [if_neg (fun h => by rcases h with h | h; exact hd0 (.inl h); exact h hd1), e2]
      exact ⟨q', th_ok g1, s3⟩
    ·rename_i hq
     rw [if_neg hq]
     exact ih h hs
  | 8 =>
   rw [gr8] at h ⊢
   have ha := amo_z hs hz (a := 7) (n := 2) (by decide) (by decide)
   have ho := hd_z hs hz (s := opn) (by decide) (by decide)
   rw [ha]
   split at h
   ·rename_i hc
    cases h
    obtain ⟨r0, e0, s0⟩ := tl_z z hs (hd_nn rfl (amo_some (by decide) (by decide) hc))
    rw [if_pos hc, e0]
    exact ⟨r0, rfl, s0⟩
   ·rename_i hc
    rw [if_neg hc]
    split at h
    ·rename_i hp
     obtain ⟨u, r, h1, h2⟩ := th_inr h
     obtain ⟨r0, e0, s0⟩ := tl_z z hs (hd_nn hp opn_ne)
     obtain ⟨r', g1, s1⟩ := ih h1 s0
     rw [if_pos (ho.2 hp), e0]
     (try dsimp only at h2)
     split at h2
     ·rename_i hq
      cases h2
      obtain ⟨hq1, r2, -, e2, s2⟩ := hd_c (z := z) s1 hq
      refine ⟨r2, (th_ok g1).trans ?_, s2⟩
      (try dsimp only)
      rw [if_pos hq1, e2]
     ·cases h2
    ·rename_i hp
     rw [if_neg (fun h => hp (ho.1 h))]
     split at h
     ·rename_i hk1
      cases ts with
      | nil => cases h
      | cons x r =>
       obtain ⟨x', r', rfl, e1, e2, e3, e4⟩ := hs.cons
       have hk2 : hk (x' :: r' ++ z) = 1 ∧ hd (x' :: r' ++ z).tail = wd 15 := ⟨e1.trans hk1.1, (hd_z e4 hz (wd_cls (by decide)) (wd_ne (by decide) (by decide))).2 hk1.2⟩
       rw [if_pos hk2]
       dsimp only [List.cons_append] at h ⊢
       rw [e3]
       split at h
       ·cases h
       ·rename_i h0
        rw [if_neg h0]
        obtain ⟨u, r3, h1, h2⟩ := th_inr h
        obtain ⟨r4, e5, s4⟩ := tl_z z e4 (hd_nn hk1.2 (wd_ne (by decide) (by decide)))
        obtain ⟨q', g1, s1⟩ := ih h1 s4
        cases h2
        refine ⟨q', ?_, s1⟩
        rw [show (x' :: (r' ++ z)).tail.tail = r4 ++ z from e5]
        exact th_ok g1
     ·rename_i hk1
      have hk2 : ¬ (hk (ts' ++ z) = 1 ∧ hd (ts' ++ z).tail = wd 15) := by
       rintro ⟨k1, k2⟩
       have k3 := (hk_z hs hz (.inl rfl)).1 k1
       refine hk1 ⟨k3, ?_⟩
       cases ts with
       | nil => cases k3
       | cons x r =>
        obtain ⟨x', r', rfl, e1, e2, e3, e4⟩ := hs.cons
        exact (hd_z e4 hz (wd_cls (by decide)) (wd_ne (by decide) (by decide))).1 k2
      rw [if_neg hk2]
      obtain ⟨u, r, h1, h2⟩ := th_inr h
      obtain ⟨r', g1, s1⟩ := ih h1 hs
      have hb := amo_z s1 hz (a := 9) (n := 6) (by decide) (by decide)
      (try dsimp only at h2)
      split at h2
      ·cases h2
      ·rename_i h9
       obtain ⟨v, s, h3, h4⟩ := th_inr h2
       obtain ⟨r0, e0, s0⟩ := tl_z z s1 (hd_nn rfl (amo_some (by decide) (by decide) h9))
       obtain ⟨q', g3, s3⟩ := ih h3 s0
       cases h4
       refine ⟨q', (th_ok g1).trans ?_, s3⟩
       (try dsimp only)
       rw [hb, if_neg h9, e0]
       exact th_ok g3
  | 9 =>
   obtain ⟨u, r, h1, h2⟩ := th_inr h
   obtain ⟨r', g1, s1⟩ := ih h1 hs
   obtain ⟨q', g2, s2⟩ := ih h2 s1
   exact ⟨q', (th_ok g1).trans g2, s2⟩
  | 10 =>
   simp only [Gr] at h ⊢
   rw [amo_z hs hz (a := 4) (n := 2) (by decide) (by decide)]
   split at h
   ·rename_i hc
    obtain ⟨u, r, h1, h2⟩ := th_inr h
    obtain ⟨r0, e0, s0⟩ := tl_z z hs (hd_nn rfl (amo_some (by decide) (by decide) hc))
    obtain ⟨r', g1, s1⟩ := ih h1 s0
    obtain ⟨q', g2, s2⟩ := ih h2 s1
    rw [if_pos hc, e0]
    exact ⟨q', (th_ok g1).trans g2, s2⟩
   ·rename_i hc
    cases h
    rw [if_neg hc]
    exact ⟨ts', rfl, hs⟩
  | k + 11 =>
   rw [gr11] at h ⊢
   have hm := hd_z hs hz (s := wd 3) (wd_cls (by decide)) (wd_ne (by decide) (by decide))
   have ho := hd_z hs hz (s := opn) (by decide) (by decide)
   split at h
   ·rename_i hc
    obtain ⟨u, r, h1, h2⟩ := th_inr h
    obtain ⟨r0, e0, s0⟩ := tl_z z hs (hd_nn hc (wd_ne (by decide) (by decide)))
    obtain ⟨r', g1, s1⟩ := ih h1 s0
    cases h2
    rw [if_pos (hm.2 hc), e0]
    exact ⟨r', th_ok g1, s1⟩
   ·rename_i hc
    rw [if_neg (fun h => hc (hm.1 h))]
    split at h
    ·rename_i hp
     obtain ⟨u, r, h1, h2⟩ := th_inr h
     obtain ⟨r0, e0, s0⟩ := tl_z z hs (hd_nn hp opn_ne)
     obtain ⟨r', g1, s1⟩ := ih h1 s0
     rw [if_pos (ho.2 hp), e0]
     (try dsimp only at h2)
     split at h2
     ·rename_i hq
      cases h2
      obtain ⟨hq1, r2, -, e2, s2⟩ := hd_c (z := z) s1 hq
      refine ⟨r2, (th_ok g1).trans ?_, s2⟩
      (try dsimp only)
      rw [if_pos hq1, e2]
     ·cases h2
    ·rename_i hp
     rw [if_neg (fun h => hp (ho.1 h))]
     have hk1 := hk_z hs hz (k := 1) (.inl rfl)
     have hk2 := hk_z hs hz (k := 2) (.inr rfl)
     split at h
     ·rename_i h1k
      rw [if_pos (hk1.2 h1k)]
      cases ts with
      | nil => cases h
      | cons x r =>
       obtain ⟨x', r', rfl, e1, e2, e3, e4⟩ := hs.cons
       dsimp only [List.cons_append] at h ⊢
       have h6 := hd_z e4 hz (s := wd 6) (wd_cls (by decide)) (wd_ne (by decide) (by decide))
       rw [e3]
       split at h
       ·rename_i h6c
        obtain ⟨u, r3, h1, h2⟩ := th_inr h
        obtain ⟨r4, e5, s4⟩ := tl_z z e4 (hd_nn h6c (wd_ne (by decide) (by decide)))
        obtain ⟨q', g1, s1⟩ := ih h1 s4
        cases h2
        rw [if_pos (h6.2 h6c), e5]
        exact ⟨q', th_ok g1, s1⟩
       ·rename_i h6c
        cases h
        rw [if_neg (fun h => h6c (h6.1 h))]
        exact ⟨r', rfl, e4⟩
     ·rename_i h1k
      rw [if_neg (fun h => h1k (hk1.1 h))]
      split at h
      ·rename_i h2k
       cases ts with
       | nil => exact absurd h2k (by decide)
       | cons x r =>
        obtain ⟨x', r', rfl, e1, e2, e3, e4⟩ := hs.cons
        cases h
        rw [if_pos (hk2.2 h2k)]
        refine ⟨r', ?_, e4⟩
        show some (Sum.inr (nd ⟨2, x'.text, [], false, []⟩ [], r' ++ z)) = _
        rw [e2]
        rfl
      ·cases h
end Sx
end Go.Proofs.YtgpaajolcpgeaaaGreatDoor

namespace Go.Proofs.YtgpaajolcpgeaaaGreatDoor
open Go.RowKit
namespace Sx

end Sx
end Go.Proofs.YtgpaajolcpgeaaaGreatDoor

namespace Go.Proofs.YtgpaajolcpgeaaaGreatDoor
open Go.RowKit
namespace Sx

end Sx
end Go.Proofs.YtgpaajolcpgeaaaGreatDoor

namespace Go.Proofs.YtgpaajolcpgeaaaGreatDoor
open Go.RowKit
namespace Sx

theorem nms_of : ∀ ts : List TD, (nms ts).1.length ≤ ts.length ∧ ∀ x ∈ (nms ts).1, ∃ t ∈ ts, x = t.text := by
 intro ts
 induction ts with
 | nil => exact ⟨Nat.le_refl _, fun x h => by cases h⟩
 | cons t ts ih =>
  unfold nms
  split
  ·refine ⟨by simp; exact ih.1, fun x hx => ?_⟩
   rcases List.mem_cons.1 hx with rfl | hx
   ·exact ⟨t, List.mem_cons_self, rfl⟩
   ·obtain ⟨u, h1, h2⟩ := ih.2 x hx
    exact ⟨u, List.mem_cons_of_mem _ h1, h2⟩
  ·exact ⟨Nat.zero_le _, fun x h => by cases h⟩
/-- names that are short -/
def Nm4 (l : Lab) : Prop := l.nm.size ≤ 4096 ∧ l.nms.length ≤ 4096 ∧ ∀ n ∈ l.nms, n.size ≤ 4096
theorem lb_nm {ts : List TD} (hl : ts.length ≤ 4096) (ht : ∀ t ∈ ts, t.text.size ≤ 4096) : LbOk Nm4 ts where
 pl k := ⟨Nat.zero_le _, Nat.zero_le _, fun n h => by cases h⟩
 ns ts' hs k := by
  obtain ⟨h1, h2⟩ := nms_of ts'
  refine ⟨Nat.zero_le _, Nat.le_trans h1 (Nat.le_trans hs.length_le hl), fun n hn => ?_⟩
  obtain ⟨t, h3, rfl⟩ := h2 n hn
  exact ht t (hs.subset h3)
 nu t _ k := ⟨Nat.zero_le _, Nat.zero_le _, fun n h => by cases h⟩
 nm t h := ⟨ht t h, Nat.zero_le _, fun n h => by cases h⟩
theorem lx_ok {s : ByteArray} : ∀ {ts : List TD} {a p : Nat}, Lx s a ts 0 p → p = 0 := by
 intro ts
 induction ts with
 | nil =>
  intro a p h
  rcases h.nil with ⟨-, -, h⟩ | ⟨k, -, -, h, -⟩
  ·exact h
  ·exact absurd h (by
    unfold Nw
    intro h
    simp at h)
 | cons t ts ih =>
  intro a p h
  obtain ⟨k, -, -, -, h⟩ := h.cons
  exact ih h
/-- what Parse reads has short names -/
theorem pa_nm {s : ByteArray} {t : Tr} (h : PaD s (.inr t)) : Al Nm4 t ∧ ¬ Dp 60 t := by
 obtain ⟨ts, e, p, hx, ⟨-, h⟩ | ⟨rfl, n, h, hd⟩⟩ := h
 ·cases h
 ·have hp : p = 0 := by
   unfold Lxs at hx
   split at hx
   ·exact absurd hx.2.1 (by decide)
   ·exact lx_ok hx
  subst hp
  obtain ⟨-, h1, h2⟩ := lxs_short hx
  exact ⟨(gr_all (lb_nm h1 h2) n h (List.suffix_refl _) (by simp)).1, hd⟩
/-- what exact asks of a tree that was read -/
theorem pa_ex {s : ByteArray} {t : Tr} (h : PaD s (.inr t)) (hF : Few4 4096 t) : ∀ i u, At4 i t u → (ksO u).length ≤ 1073741824 ∧ (lbO u).nms.length ≤ 1073741824 := by
 intro i u hu
 obtain ⟨h1, h2⟩ := pa_nm h
 have h3 := (h1 i u hu).2.1
 obtain ⟨h4, h5⟩ := sub_cnt hu h2
 have h6 := cnt_self h5
 have h7 := len_le_cnL (n := 60) (l := ksO u) fun v hv => dp_kid h5 hv
 have h8 := hF 60
 exact ⟨by omega, by omega⟩
end Sx
end Go.Proofs.YtgpaajolcpgeaaaGreatDoor

namespace Go.Proofs.YtgpaajolcpgeaaaGreatDoor
open Go.RowKit
namespace Sx

/-- a label with its number as it should stand -/
def cpL (l : Lab) : Lab := ⟨l.k, l.nm, l.nms, decide (nmZ l < 0), cl (nmZ l).natAbs⟩
/-- the copy, so many levels deep -/
def cpT : Nat → Tr → Tr
 | 0, t => t
 | f + 1, t => nd (cpL (lbO t)) ((ksO t).map (cpT f))
theorem cpT_nd (f : Nat) (l : Lab) (ks : List Tr) : cpT (f + 1) (nd l ks) = nd (cpL l) (ks.map (cpT f)) := rfl
theorem val_clF (f : Nat) : ∀ n, n ≤ f → val (clF f n) = (n : Int) := by
 induction f with
 | zero =>
  intro n h
  obtain rfl : n = 0 := by omega
  rfl
 | succ f ih =>
  intro n h
  unfold clF
  split
  ·rename_i h0
   subst h0
   rfl
  ·rw [show val (((n % 4294967296 : Nat) : Int) :: clF f (n / 4294967296)) = ((n % 4294967296 : Nat) : Int) + 4294967296 * val (clF f (n / 4294967296)) from vl_cons _ _ _, ih _ (by omega)]
   omega
theorem val_cl (n : Nat) : val (cl n) = (n : Int) := val_clF _ _ (Nat.le_refl _)
/-- a number that stands -/
theorem cp_of {l : Lab} {s : Bool} {zs : List Int} {n : Int} (hc : Canon zs) (hv : val zs = n) (hz : nmZ l = sg s n) (hs : s = true → n ≠ 0) (hn : 0 ≤ n) : decide (nmZ l < 0) = s ∧ cl (nmZ l).natAbs = zs := by
 have e : ((nmZ l).natAbs : Int) = n := by
  rw [hz]
  unfold sg
  split <;> omega
 refine ⟨?_, by rw [e]; exact cl_of hc hv⟩
 rw [hz]
 unfold sg
 cases s with
 | true =>
  have := hs rfl
  rw [decide_eq_true_eq]
  simp
  omega
 | false =>
  rw [decide_eq_false_iff_not]
  simp
  omega
end Sx
end Go.Proofs.YtgpaajolcpgeaaaGreatDoor

namespace Go.Proofs.YtgpaajolcpgeaaaGreatDoor
open Go.RowKit Go.Shelf
namespace Sx

def knS : ByteArray := ⟨#[110, 111, 116, 40, 120, 60, 49, 41, 111, 114, 32, 115, 111, 109, 101, 32, 121, 46, 50, 32, 100, 105, 118, 105, 100, 101, 115, 32, 120, 45, 40, 121, 43, 49, 41]⟩
def knO : ByteArray := ⟨#[110, 111, 116, 32, 120, 32, 60, 32, 49, 32, 111, 114, 32, 115, 111, 109, 101, 32, 121, 32, 46, 32, 50, 32, 100, 105, 118, 105, 100, 101, 115, 32, 120, 32, 45, 32, 40, 121, 32, 43, 32, 49, 41]⟩
def kw0 : TD := ⟨3, ⟨#[110, 111, 116]⟩, 0, 0⟩
def kw1 : TD := ⟨4, ⟨#[40]⟩, 0, 3⟩
def kw2 : TD := ⟨2, ⟨#[120]⟩, 0, 4⟩
def kw3 : TD := ⟨4, ⟨#[60]⟩, 0, 5⟩
def kw4 : TD := ⟨1, ⟨#[49]⟩, 1, 6⟩
def kw5 : TD := ⟨4, ⟨#[41]⟩, 0, 7⟩
def kw6 : TD := ⟨3, ⟨#[111, 114]⟩, 0, 8⟩
def kw7 : TD := ⟨3, ⟨#[115, 111, 109, 101]⟩, 0, 11⟩
def kw8 : TD := ⟨2, ⟨#[121]⟩, 0, 16⟩
def kw9 : TD := ⟨4, ⟨#[46]⟩, 0, 17⟩
def kw10 : TD := ⟨1, ⟨#[50]⟩, 2, 18⟩
def kw11 : TD := ⟨3, ⟨#[100, 105, 118, 105, 100, 101, 115]⟩, 0, 20⟩
def kw12 : TD := ⟨2, ⟨#[120]⟩, 0, 28⟩
def kw13 : TD := ⟨4, ⟨#[45]⟩, 0, 29⟩
def kw14 : TD := ⟨4, ⟨#[40]⟩, 0, 30⟩
def kw15 : TD := ⟨2, ⟨#[121]⟩, 0, 31⟩
def kw16 : TD := ⟨4, ⟨#[43]⟩, 0, 32⟩
def kw17 : TD := ⟨1, ⟨#[49]⟩, 1, 33⟩
def kw18 : TD := ⟨4, ⟨#[41]⟩, 0, 34⟩
def knW : List TD := [kw0, kw1, kw2, kw3, kw4, kw5, kw6, kw7, kw8, kw9, kw10, kw11, kw12, kw13, kw14, kw15, kw16, kw17, kw18]
theorem row_dec {s : ByteArray} {a k : Nat} (h1 : a + k ≤ s.size) (h2 : (List.range k).all (fun j => inRow (bt s (a + j))) = true) (h3 : (decide (a + k < s.size) && inRow (bt s (a + k))) = false) : RowAt s a k :=
 ⟨h1, range_all.1 h2, fun h => by rw [decide_eq_true h, Bool.true_and] at h3; exact h3⟩
theorem blank_dec {s : ByteArray} {a k : Nat} (h0 : a ≤ k) (h1 : k ≤ s.size) (h2 : (List.range (k - a)).all (fun j => decide (cls (bt s (a + j)) = 0)) = true) (h3 : (decide (k < s.size) && decide (cls (bt s k) = 0)) = false) : BlankEnd s a k := by
 refine ⟨h0, h1, fun j hj hj' => ?_, fun h hc => ?_⟩
 ·have := range_all.1 h2 (j - a) (by omega)
  rw [show a + (j - a) = j from by omega, decide_eq_true_iff] at this
  exact this
 ·rw [decide_eq_true h, Bool.true_and, decide_eq_false_iff_not] at h3
  exact h3 hc
theorem kd_word {s : ByteArray} (h : tenB s = true) : kd s = 3 := by unfold kd; rw [if_pos h]
theorem kd_name {s : ByteArray} (h : tenB s = false) (hl : s.size ≤ 24) : kd s = 2 := by unfold kd; rw [if_neg (by rw [h]; decide), if_neg (by omega)]
theorem wd_0 : Wd knS 0 kw0 := ⟨rfl, by decide, by rfl, .inr (.inl ⟨by decide, row_dec (by decide) (by decide) (by decide), (kd_word (by simp [tenB, ByteArray.toList_eq, kw0])).symm, by decide, rfl⟩)⟩
theorem wd_1 : Wd knS 3 kw1 := ⟨rfl, by decide, by rfl, .inr (.inr ⟨by decide, by decide, by decide +kernel, by decide, rfl, rfl⟩)⟩
theorem wd_2 : Wd knS 4 kw2 := ⟨rfl, by decide, by rfl, .inr (.inl ⟨by decide, row_dec (by decide) (by decide) (by decide), (kd_name (by simp [tenB, ByteArray.toList_eq, kw2]) (by decide)).symm, by decide, rfl⟩)⟩
theorem wd_3 : Wd knS 5 kw3 := ⟨rfl, by decide, by rfl, .inr (.inr ⟨by decide, by decide, by decide +kernel, by decide, rfl, rfl⟩)⟩
theorem ok_4 : okText kw4.text := by
 refine ⟨by decide, by decide, ?_⟩
 have : ∀ i, i < 1 → 48 ≤ bt kw4.text i ∧ bt kw4.text i ≤ 57 := by decide
 exact this
theorem wd_4 : Wd knS 6 kw4 := ⟨rfl, by decide, by rfl, .inl ⟨by decide, row_dec (by decide) (by decide) (by decide), ok_4, rfl, by decide⟩⟩
theorem wd_5 : Wd knS 7 kw5 := ⟨rfl, by decide, by rfl, .inr (.inr ⟨by decide, by decide, by decide +kernel, by decide, rfl, rfl⟩)⟩
theorem wd_6 : Wd knS 8 kw6 := ⟨rfl, by decide, by rfl, .inr (.inl ⟨by decide, row_dec (by decide) (by decide) (by decide), (kd_word (by simp [tenB, ByteArray.toList_eq, kw6])).symm, by decide, rfl⟩)⟩
theorem wd_7 : Wd knS 11 kw7 := ⟨rfl, by decide, by rfl, .inr (.inl ⟨by decide, row_dec (by decide) (by decide) (by decide), (kd_word (by simp [tenB, ByteArray.toList_eq, kw7])).symm, by decide, rfl⟩)⟩
theorem wd_8 : Wd knS 16 kw8 := ⟨rfl, by decide, by rfl, .inr (.inl ⟨by decide, row_dec (by decide) (by decide) (by decide), (kd_name (by simp [tenB, ByteArray.toList_eq, kw8]) (by decide)).symm, by decide, rfl⟩)⟩
theorem wd_9 : Wd knS 17 kw9 := ⟨rfl, by decide, by rfl, .inr (.inr ⟨by decide, by decide, by decide +kernel, by decide, rfl, rfl⟩)⟩
theorem ok_10 : okText kw10.text := by
 refine ⟨by decide, by decide, ?_⟩
 have : ∀ i, i < 1 → 48 ≤ bt kw10.text i ∧ bt kw10.text i ≤ 57 := by decide
 exact this
theorem wd_10 : Wd knS 18 kw10 := ⟨rfl, by decide, by rfl, .inl ⟨by decide, row_dec (by decide) (by decide) (by decide), ok_10, rfl, by decide⟩⟩
theorem wd_11 : Wd knS 20 kw11 := ⟨rfl, by decide, by rfl, .inr (.inl ⟨by decide, row_dec (by decide) (by decide) (by decide), (kd_word (by simp [tenB, ByteArray.toList_eq, kw11])).symm, by decide, rfl⟩)⟩
theorem wd_12 : Wd knS 28 kw12 := ⟨rfl, by decide, by rfl, .inr (.inl ⟨by decide, row_dec (by decide) (by decide) (by decide), (kd_name (by simp [tenB, ByteArray.toList_eq, kw12]) (by decide)).symm, by decide, rfl⟩)⟩
theorem wd_13 : Wd knS 29 kw13 := ⟨rfl, by decide, by rfl, .inr (.inr ⟨by decide, by decide, by decide +kernel, by decide, rfl, rfl⟩)⟩
theorem wd_14 : Wd knS 30 kw14 := ⟨rfl, by decide, by rfl, .inr (.inr ⟨by decide, by decide, by decide +kernel, by decide, rfl, rfl⟩)⟩
theorem wd_15 : Wd knS 31 kw15 := ⟨rfl, by decide, by rfl, .inr (.inl ⟨by decide, row_dec (by decide) (by decide) (by decide), (kd_name (by simp [tenB, ByteArray.toList_eq, kw15]) (by decide)).symm, by decide, rfl⟩)⟩
theorem wd_16 : Wd knS 32 kw16 := ⟨rfl, by decide, by rfl, .inr (.inr ⟨by decide, by decide, by decide +kernel, by decide, rfl, rfl⟩)⟩
theorem ok_17 : okText kw17.text := by
 refine ⟨by decide, by decide, ?_⟩
 have : ∀ i, i < 1 → 48 ≤ bt kw17.text i ∧ bt kw17.text i ≤ 57 := by decide
 exact this
theorem wd_17 : Wd knS 33 kw17 := ⟨rfl, by decide, by rfl, .inl ⟨by decide, row_dec (by decide) (by decide) (by decide), ok_17, rfl, by decide⟩⟩
theorem wd_18 : Wd knS 34 kw18 := ⟨rfl, by decide, by rfl, .inr (.inr ⟨by decide, by decide, by decide +kernel, by decide, rfl, rfl⟩)⟩
theorem kn_lx : Lxs knS knW 0 0 := by
 unfold Lxs
 rw [if_neg (by decide)]
 unfold knW
 refine .word (k := 0) (blank_dec (by decide) (by decide) (by decide) (by decide)) (by decide) wd_0 ?_
 refine .word (k := 3) (blank_dec (by decide) (by decide) (by decide) (by decide)) (by decide) wd_1 ?_
 refine .word (k := 4) (blank_dec (by decide) (by decide) (by decide) (by decide)) (by decide) wd_2 ?_
 refine .word (k := 5) (blank_dec (by decide) (by decide) (by decide) (by decide)) (by decide) wd_3 ?_
 refine .word (k := 6) (blank_dec (by decide) (by decide) (by decide) (by decide)) (by decide) wd_4 ?_
 refine .word (k := 7) (blank_dec (by decide) (by decide) (by decide) (by decide)) (by decide) wd_5 ?_
 refine .word (k := 8) (blank_dec (by decide) (by decide) (by decide) (by decide)) (by decide) wd_6 ?_
 refine .word (k := 11) (blank_dec (by decide) (by decide) (by decide) (by decide)) (by decide) wd_7 ?_
 refine .word (k := 16) (blank_dec (by decide) (by decide) (by decide) (by decide)) (by decide) wd_8 ?_
 refine .word (k := 17) (blank_dec (by decide) (by decide) (by decide) (by decide)) (by decide) wd_9 ?_
 refine .word (k := 18) (blank_dec (by decide) (by decide) (by decide) (by decide)) (by decide) wd_10 ?_
 refine .word (k := 20) (blank_dec (by decide) (by decide) (by decide) (by decide)) (by decide) wd_11 ?_
 refine .word (k := 28) (blank_dec (by decide) (by decide) (by decide) (by decide)) (by decide) wd_12 ?_
 refine .word (k := 29) (blank_dec (by decide) (by decide) (by decide) (by decide)) (by decide) wd_13 ?_
 refine .word (k := 30) (blank_dec (by decide) (by decide) (by decide) (by decide)) (by decide) wd_14 ?_
 refine .word (k := 31) (blank_dec (by decide) (by decide) (by decide) (by decide)) (by decide) wd_15 ?_
 refine .word (k := 32) (blank_dec (by decide) (by decide) (by decide) (by decide)) (by decide) wd_16 ?_
 refine .word (k := 33) (blank_dec (by decide) (by decide) (by decide) (by decide)) (by decide) wd_17 ?_
 refine .word (k := 34) (blank_dec (by decide) (by decide) (by decide) (by decide)) (by decide) wd_18 ?_
 exact .done (blank_dec (by decide) (by decide) (by decide) (by decide))
def knT : Tr := nd (lk 18) [nd (lk 16) [nd (lk 9) [nd ⟨2, ⟨#[120]⟩, [], false, []⟩ [], nd ⟨1, ⟨#[]⟩, [], false, [1]⟩ []]], nd ⟨21, ⟨#[]⟩, [⟨#[121]⟩], false, []⟩ [nd ⟨15, ⟨#[]⟩, [], false, [2]⟩ [nd (lk 5) [nd ⟨2, ⟨#[120]⟩, [], false, []⟩ [], nd (lk 4) [nd ⟨2, ⟨#[121]⟩, [], false, []⟩ [], nd ⟨1, ⟨#[]⟩, [], false, [1]⟩ []]]]]]
theorem kn_gr : Gr 35 40 0 [] knW = some (.inr (knT, [])) := by kernel_rfl
theorem kn_print : (parF 60 knT 0 true ps0).l.toArray = knO.data ∧ (parF 60 knT 0 true ps0).o = false := by
 constructor <;> kernel_rfl
theorem kn_cnt : cntF 60 knT = 12 := by kernel_rfl
/-- its levels, told by counting -/
def dpB : Nat → Tr → Bool
 | 0, _ => true
 | n + 1, t => (ksO t).any (dpB n)
theorem dpB_iff (n : Nat) : ∀ {t : Tr}, dpB n t = true ↔ Dp n t := by
 induction n with
 | zero => exact fun {t} => ⟨fun _ => ⟨t, rfl⟩, fun _ => rfl⟩
 | succ n ih =>
  intro t
  unfold dpB
  rw [List.any_eq_true]
  constructor
  ·rintro ⟨u, hu, h⟩
   obtain ⟨v, hv⟩ := ih.1 h
   exact ⟨v, u, hu, hv⟩
  ·rintro ⟨v, u, hu, hv⟩
   exact ⟨u, hu, ih.2 ⟨v, hv⟩⟩
theorem kn_dp : ¬ Dp 60 knT := fun h => by
 have h1 := (dpB_iff 60).2 h
 have h2 : dpB 60 knT = false := by kernel_rfl
 rw [h2] at h1
 cases h1
theorem kn_pa : PaD knS (.inr knT) := ⟨knW, 0, 0, kn_lx, .inr ⟨rfl, 40, kn_gr, kn_dp⟩⟩
theorem flat_congr {l : List Tr} {g h : Tr → List Nme} (e : ∀ u ∈ l, g u = h u) : l.flatMap g = l.flatMap h := by
 induction l with
 | nil => rfl
 | cons a l ih =>
  rw [List.flatMap_cons, List.flatMap_cons, e a (by simp), ih fun u hu => e u (by simp [hu])]
theorem fvF_full (n : Nat) : ∀ {bd : List Nme} {t : Tr}, ¬ Dp n t → fvF n bd t = fvF (n + 1) bd t := by
 induction n with
 | zero => exact fun h => absurd ⟨_, rfl⟩ h
 | succ n ih =>
  intro bd t h
  show _ ++ (ksO t).flatMap (fvF n _) = _ ++ (ksO t).flatMap (fvF (n + 1) _)
  rw [flat_congr fun u hu => ih fun ⟨v, hv⟩ => h ⟨v, u, hu, hv⟩]
theorem fvF_mono (n : Nat) : ∀ {bd : List Nme} {t : Tr} {x : Nme}, x ∈ fvF n bd t → x ∈ fvF (n + 1) bd t := by
 induction n with
 | zero => exact fun h => absurd h (by simp [fvF])
 | succ n ih =>
  intro bd t x h
  unfold fvF at h ⊢
  rcases List.mem_append.1 h with h | h
  ·exact List.mem_append_left _ h
  ·obtain ⟨u, hu, h⟩ := List.mem_flatMap.1 h
   exact List.mem_append_right _ (List.mem_flatMap.2 ⟨u, hu, ih h⟩)
theorem dp_up {n m : Nat} {t : Tr} (h : ¬ Dp n t) (hm : n ≤ m) : ¬ Dp m t := by
 induction hm with
 | refl => exact h
 | step _ ih => exact fun h => ih (dp_down h)
theorem fv_some {n : Nat} {bd : List Nme} {t : Tr} {x : Nme} (hd : ¬ Dp n t) : Fv bd t x ↔ x ∈ fvF n bd t := by
 refine ⟨fun ⟨f, h⟩ => ?_, fun h => ⟨n, h⟩⟩
 rcases Nat.le_total f n with hf | hf
 ·have : ∀ k, x ∈ fvF (f + k) bd t := by
   intro k
   induction k with
   | zero => exact h
   | succ k ih => exact fvF_mono _ ih
  have h2 := this (n - f)
  rwa [show f + (n - f) = n by omega] at h2
 ·have : ∀ k, fvF (n + k) bd t = fvF n bd t := by
   intro k
   induction k with
   | zero => rfl
   | succ k ih => rw [← ih, ← Nat.add_assoc, ← fvF_full _ (dp_up hd (Nat.le_add_right n k))]
  have h2 := this (f - n)
  rw [show n + (f - n) = f by omega] at h2
  rwa [h2] at h
theorem kn_fvF : fvF 60 [] knT = [⟨#[120]⟩, ⟨#[120]⟩] := by kernel_rfl
/-- its free names -/
theorem kn_fv (n : Nme) : Fv [] knT n ↔ n = ⟨#[120]⟩ := by
 rw [fv_some kn_dp, kn_fvF]
 simp
end Sx
end Go.Proofs.YtgpaajolcpgeaaaGreatDoor

namespace Go.Proofs.YtgpaajolcpgeaaaGreatDoor
open Go.RowKit
namespace Sx

variable {F : Nat → Prop} {base m : Nat} {v : Value} {wr : World} {q : List Sl2} {LL : List (List P2)} {E : List (Value × Value)} {S : P2 → Prop}
theorem SmM.pop {a : Option Addr} {c n : Nat} {s : Sl2} {L : List P2} (h : SmM F base m (.slice a (n + 1) c) wr (q ++ [s]) (LL ++ [L]) E S) (hq : q.length = n) : SmM F base m (.slice a n c) wr q LL E S ∧ KP F wr s L := by
 obtain ⟨h1, h2⟩ := prp_pop h.pr
 refine ⟨⟨?_, h1, h.met, h.key⟩, h2⟩
 have ho := h.own
 rw [encp_append, List.length_append, List.length_singleton, hq] at ho
 rw [hq]
 exact own_pop ho (by rw [encp_length, hq])
theorem SmM.store {w' : World} {E' : List (Value × Value)} {s1 s2 : SlT} {L1 L2 : List Tr} {u : Value} (h : SmM F base m v wr q LL E S) (hm : ¬ F m) (g : wr.grownBy w' (some m)) (hput : PutE (sp2 s1.ka s1.kn s2.ka s2.kn) u E E') (h1 : Met2 F w' m E') (hk1 : KL F wr s1 L1) (hk2 : KL F wr s2 L2) (hS : ∀ r ∈ L1.zip L2, S r) : SmM F base m v w' q LL E' S := by
 have kf : Kf F wr w' := Kf.of_grown g hm
 have mv : ∀ p ∈ E, ∃ (s1 s2 : SlT) (L1 L2 : List Tr), p.1 = sp2 s1.ka s1.kn s2.ka s2.kn ∧ KL F w' s1 L1 ∧ KL F w' s2 L2 ∧ ∀ r ∈ L1.zip L2, S r := fun p hp => by
  obtain ⟨a, b, A, B, e, k1, k2, k3⟩ := h.key p hp
  exact ⟨a, b, A, B, e, KL.kf k1 kf, KL.kf k2 kf, k3⟩
 have new : ∀ z : Value, ∃ (t1 t2 : SlT) (L1 L2 : List Tr), ((sp2 s1.ka s1.kn s2.ka s2.kn, z) : Value × Value).1 = sp2 t1.ka t1.kn t2.ka t2.kn ∧ KL F w' t1 L1 ∧ KL F w' t2 L2 ∧ ∀ r ∈ L1.zip L2, S r := fun z => ⟨s1, s2, L1, L2, rfl, KL.kf hk1 kf, KL.kf hk2 kf, hS⟩
 refine ⟨own_map h.met g h.own, h.pr.kf kf, h1, fun p hp => ?_⟩
 rcases hput with ⟨-, rfl⟩ | ⟨E1, v0, E2, rfl, rfl⟩
 ·rcases List.mem_append.1 hp with hp | hp
  ·exact mv p hp
  ·rw [List.mem_singleton.1 hp]
   exact new _
 ·rcases List.mem_append.1 hp with hp | hp
  ·exact mv p (List.mem_append_left _ hp)
  ·rcases List.mem_cons.1 hp with rfl | hp
   ·exact new _
   ·exact mv p (List.mem_append_right _ (List.mem_cons_of_mem _ hp))
theorem SmM.lay {w2 : World} {v2 : Value} {s : Sl2} {L : List P2} (h : SmM F base m v wr q LL E S) (hF : ∀ b, F b → b < base) (h4 : w2.ownsRow base 85 2 v2 (q.length + 1) (encp (q ++ [s]))) (g2 : wr.grownBy w2 v.ownBlock) (hs : KP F wr s L) : SmM F base m v2 w2 (q ++ [s]) (LL ++ [L]) E S := by
 have hob : ∀ b, v.ownBlock = some b → base ≤ b := fun b e => (h.own.lt b e).1
 have kf : Kf F wr w2 := ⟨g2.size, fun b hb hl => g2.block b hl fun e => by have := hob b e.symm; have := hF b hb; omega⟩
 have hme : v.ownBlock ≠ some m := own_not_map h.met h.own
 refine ⟨by rw [List.length_append]; exact h4, (h.pr.snoc hs).kf kf, Met2.kf h.met (g2.block m h.met.lt fun e => hme e.symm) kf, fun p hp => ?_⟩
 obtain ⟨a, b, A, B, e, k1, k2, k3⟩ := h.key p hp
 exact ⟨a, b, A, B, e, KL.kf k1 kf, KL.kf k2 kf, k3⟩
end Sx
end Go.Proofs.YtgpaajolcpgeaaaGreatDoor

namespace Go.Proofs.YtgpaajolcpgeaaaGreatDoor
open Go.RowKit
namespace Sx

theorem below_only {B b : Nat} {w w1 w2 : World} (h : Below B w w1) (o : Only b w1 w2) (hb : B ≤ b) : Below B w w2 := ⟨o.os.trans h.os, o.tape.trans h.tape, o.output.trans h.output, by rw [o.size]; exact h.size, fun i hi => (o.block i (by omega)).trans (h.block i hi)⟩
theorem v_fold (w : World) (b : Nat) (x : TC) : (((((w.setCell ⟨b, 0, none⟩ (.int .i64 x.k)).setCell ⟨b, 1, none⟩ (.string x.nm)).setCell ⟨b, 2, none⟩ (.slice x.na x.nn x.nc)).setCell ⟨b, 3, none⟩ (.bool x.s)).setCell ⟨b, 4, none⟩ (.slice x.a x.l x.c)).setCell ⟨b, 5, none⟩ (.slice x.ka x.kn x.kc) = vSet w b x := rfl
/-- where the trees lie -/
def SmF (bt : Nat) : Nat → Prop := fun b => b < bt + 5 ∧ b ≠ bt + 2
/-- pairs that need no look any more, or that are still to come -/
def SS (vis : List P2) (LL : List (List P2)) (R : List P2) : P2 → Prop := fun r => r.1 = r.2 ∨ r ∈ vis ∨ r ∈ LL.flatten ∨ r ∈ R
structure SmS (f N bt : Nat) (w : World) (p : P2) (vis : List P2) (LL : List (List P2)) (R : List P2) (E : List (Value × Value)) (q : List Sl2) (v : Value) (wr : World) : Prop where
 m : SmM (SmF bt) (bt + 5) (bt + 2) v wr q LL E (SS vis LL R)
 d : SmD f N p vis LL R
 al : ∀ r, (r ∈ LL.flatten ∨ r ∈ R) → Al Bd4 r.1 ∧ Al Bd4 r.2
 bl : Below bt w wr
 sz : bt + 5 ≤ wr.heap.size
 va : ∀ p ∈ E, p.2 = .agg #[]
theorem sm_first {f bt : Nat} {w W : World} {x y : TC} {t u : Tr} (hx : Rt (fun b => b < bt) W x t) (hy : Rt (fun b => b < bt) W y u) (hf : ¬ Dp f t) (hB : Al Bd4 t) (hC : Al Bd4 u) (hb : Below bt w W)
  (n3 : W.heap[bt + 3]? = some (.cells #[.int .i64 x.k, .string x.nm, .slice x.na x.nn x.nc, .bool x.s, .slice x.a x.l x.c, .slice x.ka x.kn x.kc] 28 (0, 0)))
  (n4 : W.heap[bt + 4]? = some (.cells #[.int .i64 y.k, .string y.nm, .slice y.na y.nn y.nc, .bool y.s, .slice y.a y.l y.c, .slice y.ka y.kn y.kc] 28 (0, 0)))
  (m2 : W.heap[bt + 2]? = some (.map #[] 0)) (n5 : W.heap[bt + 5]? = some (.cells #[.slice (some ⟨bt + 3, 0, none⟩) 1 1, .slice (some ⟨bt + 4, 0, none⟩) 1 1] 85 (0, 0))) :
  SmS f (cntF f t) bt w (t, u) [] [[(t, u)]] [] [] [⟨⟨some ⟨bt + 3, 0, none⟩, 1, 1⟩, ⟨some ⟨bt + 4, 0, none⟩, 1, 1⟩⟩] (.slice (some ⟨bt + 5, 0, none⟩) 1 1) W where
 m := by
  refine ⟨⟨rfl, .inr ⟨bt + 5, 1, _, rfl, Nat.le_refl _, n5, Nat.le_refl _, by decide, rfl, rfl⟩⟩, (prp_nil _ _).snoc ⟨?_, ?_⟩, ⟨⟨#[], 0, m2, rfl⟩, by simp, List.Pairwise.nil⟩, by simp⟩
  ·exact rk_one n3 ⟨by omega, by omega⟩ (hx.imp fun b hb => ⟨by omega, by omega⟩)
  ·exact rk_one n4 ⟨by omega, by omega⟩ (hy.imp fun b hb => ⟨by omega, by omega⟩)
 d := smD_first (p := (t, u)) hf
 al r hr := by
  simp at hr
  subst hr
  exact ⟨hB, hC⟩
 bl := hb
 sz := Nat.le_of_lt (lt_of_block n5)
 va := by simp
variable {f N bt : Nat} {w wr : World} {p : P2} {vis : List P2} {LL : List (List P2)} {R : List P2} {E : List (Value × Value)} {q : List Sl2} {v : Value}
theorem SmS.below {w' : World} (h : SmS f N bt w p vis LL R E q v wr) (k : Below wr.heap.size wr w') : SmS f N bt w p vis LL R E q v w' :=
 ⟨h.m.below k, h.d, h.al, h.bl.trans (k.mono (by have := h.sz; omega)), Nat.le_trans h.sz k.size, h.va⟩
theorem SmS.pop {a : Option Addr} {c n : Nat} {s : Sl2} {L : List P2} (h : SmS f N bt w p vis (LL ++ [L]) [] E (q ++ [s]) (.slice a (n + 1) c) wr) (hq : q.length = n) : SmS f N bt w p vis LL L E q (.slice a n c) wr ∧ KP (SmF bt) wr s L := by
 obtain ⟨h1, h2⟩ := h.m.pop hq
 have e : ∀ r, r ∈ (LL ++ [L]).flatten ↔ r ∈ LL.flatten ∨ r ∈ L := fun r => by simp
 refine ⟨⟨h1.imp fun r hr => ?_, h.d.pop, fun r hr => h.al r (.inl ((e r).2 hr)), h.bl, h.sz, h.va⟩, h2⟩
 rcases hr with hr | hr | hr | hr
 ·exact .inl hr
 ·exact .inr (.inl hr)
 ·exact .inr (.inr ((e r).1 hr))
 ·cases hr
theorem ss_step {r0 : P2} {r : P2} (h : SS vis LL (r0 :: R) r) : SS (vis ++ [r0]) LL R r := by
 rcases h with h | h | h | h
 ·exact .inl h
 ·exact .inr (.inl (List.mem_append_left _ h))
 ·exact .inr (.inr (.inl h))
 ·rcases List.mem_cons.1 h with rfl | h
  ·exact .inr (.inl (List.mem_append_right _ (List.mem_singleton.2 rfl)))
  ·exact .inr (.inr (.inr h))
/-- a pair of which the kids need no look -/
theorem SmS.see {r0 : P2} (h : SmS f N bt w p vis LL (r0 :: R) E q v wr) (ha : alB r0.1 r0.2 = true) (hk : ∀ r ∈ kz r0, SS vis LL (r0 :: R) r) : SmS f N bt w p (vis ++ [r0]) LL R E q v wr :=
 ⟨h.m.imp fun _ hr => ss_step hr, h.d.see ha fun r hr => ss_step (hk r hr), fun r hr => h.al r (hr.imp id (List.mem_cons_of_mem _)), h.bl, h.sz, h.va⟩
/-- a pair whose kids are laid on the stack -/
theorem SmS.lay {r0 : P2} {w1 w2 : World} {v2 : Value} {E' : List (Value × Value)} {s : Sl2} (h : SmS f N bt w p vis LL (r0 :: R) E q v wr) (ha : alB r0.1 r0.2 = true)
  (g : wr.grownBy w1 (some (bt + 2))) (hput : PutE (sp2 s.a.ka s.a.kn s.b.ka s.b.kn) (.agg #[]) E E') (h1 : Met2 (SmF bt) w1 (bt + 2) E') (hk : KP (SmF bt) wr s (kz r0)) (hka : KL (SmF bt) wr s.a (ksO r0.1)) (hkb : KL (SmF bt) wr s.b (ksO r0.2))
  (h4 : w2.ownsRow (bt + 5) 85 2 v2 (q.length + 1) (encp (q ++ [s]))) (g2 : w1.grownBy w2 v.ownBlock) : SmS f N bt w p (vis ++ [r0]) (LL ++ [kz r0]) R E' (q ++ [s]) v2 w2 := by
 have e : ∀ r, r ∈ (LL ++ [kz r0]).flatten ↔ r ∈ LL.flatten ∨ r ∈ kz r0 := fun r => by simp
 have hm := h.m.imp (S' := SS (vis ++ [r0]) (LL ++ [kz r0]) R) fun r hr => by
  rcases ss_step hr with hr | hr | hr | hr
  ·exact .inl hr
  ·exact .inr (.inl hr)
  ·exact .inr (.inr (.inl ((e r).2 (.inl hr))))
  ·exact .inr (.inr (.inr hr))
 have hnF : ¬ SmF bt (bt + 2) := fun h => h.2 rfl
 have hm1 := hm.store hnF g hput h1 hka hkb fun r hr => .inr (.inr (.inl ((e r).2 (.inr hr))))
 have hm2 := hm1.lay (fun b hb => hb.1) h4 g2 (hk.kf (Kf.of_grown g hnF))
 have hob : ∀ b, v.ownBlock = some b → bt + 5 ≤ b := fun b e => (h.m.own.lt b e).1
 refine ⟨hm2, h.d.lay ha, fun r hr => ?_, ?_, Nat.le_trans h.sz (Nat.le_trans g.size g2.size), fun p hp => ?_⟩
 ·rcases hr with hr | hr
  ·rcases (e r).1 hr with hr | hr
   ·exact h.al r (.inl hr)
   ·obtain ⟨h5, h6⟩ := h.al r0 (.inr List.mem_cons_self)
    obtain ⟨h7, h8⟩ := List.of_mem_zip (a := r.1) (b := r.2) hr
    exact ⟨h5.kid h7, h6.kid h8⟩
  ·exact h.al r (.inr (List.mem_cons_of_mem _ hr))
 ·have sz := h.sz
  have s1 := g.size
  exact ⟨g2.os.trans (g.os.trans h.bl.os), g2.tape.trans (g.tape.trans h.bl.tape), g2.output.trans (g.output.trans h.bl.output), Nat.le_trans h.bl.size (Nat.le_trans g.size g2.size), fun i hi => (g2.block i (by omega) fun e => by have := hob i e.symm; omega).trans ((g.block i (by omega) fun e => by have := Option.some.inj e; omega).trans (h.bl.block i hi))⟩
 ·rcases hput with ⟨-, rfl⟩ | ⟨E1, v0, E2, rfl, rfl⟩
  ·rcases List.mem_append.1 hp with hp | hp
   ·exact h.va p hp
   ·rw [List.mem_singleton.1 hp]
  ·rcases List.mem_append.1 hp with hp | hp
   ·exact h.va p (List.mem_append_left _ hp)
   ·rcases List.mem_cons.1 hp with rfl | hp
    ·rfl
    ·exact h.va p (List.mem_append_right _ (List.mem_cons_of_mem _ hp))
/-- two spans' variable -/
def B2 (w : World) (b : Nat) (pa : Option Addr) (n : Int) (pb : Option Addr) (k : Int) : Prop := w.heap[b]? = some (.cells #[.pointer pa, .int .i64 n, .pointer pb, .int .i64 k] 91 (0, 0))
theorem B2.lt {w : World} {b : Nat} {pa : Option Addr} {n : Int} {pb : Option Addr} {k : Int} (h : B2 w b pa n pb k) : b < w.heap.size := lt_of_block h
theorem B2.below {w w' : World} {b : Nat} {pa : Option Addr} {n : Int} {pb : Option Addr} {k : Int} (h : B2 w b pa n pb k) (kb : Below w.heap.size w w') : B2 w' b pa n pb k := (kb.block b h.lt).trans h
def s2Set (w : World) (b : Nat) (pa : Option Addr) (n : Int) (pb : Option Addr) (k : Int) : World := (((w.setCell ⟨b, 0, none⟩ (.pointer pa)).setCell ⟨b, 1, none⟩ (.int .i64 n)).setCell ⟨b, 2, none⟩ (.pointer pb)).setCell ⟨b, 3, none⟩ (.int .i64 k)
theorem s2_only (w : World) (b : Nat) (pa : Option Addr) (n : Int) (pb : Option Addr) (k : Int) : Only b w (s2Set w b pa n pb k) := (((Only.set b 0 w _).trans (Only.set b 1 _ _)).trans (Only.set b 2 _ _)).trans (Only.set b 3 _ _)
theorem s2_fold (w : World) (b : Nat) (pa : Option Addr) (n : Int) (pb : Option Addr) (k : Int) : (((w.setCell ⟨b, 0, none⟩ (.pointer pa)).setCell ⟨b, 1, none⟩ (.int .i64 n)).setCell ⟨b, 2, none⟩ (.pointer pb)).setCell ⟨b, 3, none⟩ (.int .i64 k) = s2Set w b pa n pb k := rfl
theorem s2_set {w : World} {b : Nat} {pa : Option Addr} {n : Int} {pb : Option Addr} {k : Int} (h : B2 w b pa n pb k) (pa' : Option Addr) (n' : Int) (pb' : Option Addr) (k' : Int) : B2 (s2Set w b pa' n' pb' k') b pa' n' pb' k' := by
 have y0 := heap_setCell_same w b 0 _ 91 (.pointer pa') h
 have y1 := heap_setCell_same _ b 1 _ 91 (.int .i64 n') y0
 have y2 := heap_setCell_same _ b 2 _ 91 (.pointer pb') y1
 have y3 := heap_setCell_same _ b 3 _ 91 (.int .i64 k') y2
 unfold B2 s2Set
 simpa using y3
theorem al_2 {w0 w : World} (h : Below w0.heap.size w0 w) : ∃ wL, Hid (w.alloc (.cells #[.pointer none, .int .i64 0, .pointer none, .int .i64 0] 91) = wL) ∧ B2 wL w.heap.size none 0 none 0 ∧ w0.heap.size ≤ w.heap.size ∧ Below w.heap.size w wL ∧ Below w0.heap.size w0 wL :=
 ⟨_, hide rfl, heap_alloc_new w _, h.size, below_alloc w _, grow_step (below_alloc w _) h⟩
theorem B2.c0 {w : World} {b : Nat} {pa : Option Addr} {n : Int} {pb : Option Addr} {k : Int} (h : B2 w b pa n pb k) : w.cell? ⟨b, 0, none⟩ = some (.pointer pa) := cell_of_row w b 0 _ _ (0, 0) h
theorem B2.c1 {w : World} {b : Nat} {pa : Option Addr} {n : Int} {pb : Option Addr} {k : Int} (h : B2 w b pa n pb k) : w.cell? ⟨b, 1, none⟩ = some (.int .i64 n) := cell_of_row w b 1 _ _ (0, 0) h
theorem B2.c2 {w : World} {b : Nat} {pa : Option Addr} {n : Int} {pb : Option Addr} {k : Int} (h : B2 w b pa n pb k) : w.cell? ⟨b, 2, none⟩ = some (.pointer pb) := cell_of_row w b 2 _ _ (0, 0) h
theorem B2.c3 {w : World} {b : Nat} {pa : Option Addr} {n : Int} {pb : Option Addr} {k : Int} (h : B2 w b pa n pb k) : w.cell? ⟨b, 3, none⟩ = some (.int .i64 k) := cell_of_row w b 3 _ _ (0, 0) h
theorem B2.fz {w : World} {b : Nat} {pa : Option Addr} {n : Int} {pb : Option Addr} {k : Int} (h : B2 w b pa n pb k) (i : Nat) : w.frozen? ⟨b, i, none⟩ = false := frozen_of_row w b i _ _ h
theorem zero_e2 (w : World) : (zeroValue 92).run Tryz.prog w = .ok (.agg #[]) w := by kernel_rfl
theorem zip_self : ∀ {l : List Tr} {q : P2}, q ∈ l.zip l → q.1 = q.2 := by
 intro l
 induction l with
 | nil => intro q h; cases h
 | cons a l ih =>
  intro q h
  rw [List.zip_cons_cons] at h
  rcases List.mem_cons.1 h with rfl | h
  ·rfl
  ·exact ih h
/-- kids that lie at one place, or that were met -/
theorem same_place {F : Nat → Prop} {w : World} {X Y : TC} {kx ky : List Tr} (hx : RK F w (Rt F w) X.ka X.kn kx) (hy : RK F w (Rt F w) Y.ka Y.kn ky) (hn : X.kn = Y.kn) {pa pb : Option Addr} (ha : (if X.kn = 0 then none else X.ka) = pa) (hb : (if Y.kn = 0 then none else Y.ka) = pb) (he : pa = pb) : ∀ r ∈ kx.zip ky, r.1 = r.2 := by
 intro r hr
 by_cases h0 : X.kn = 0
 ·rw [List.length_eq_zero_iff.1 (hx.1.trans h0)] at hr
  cases hr
 ·rw [if_neg h0] at ha
  rw [if_neg (hn ▸ h0)] at hb
  rw [ha, he, ← hb, hn] at hx
  rw [rk_only hx hy] at hr
  exact zip_self hr
theorem met_place {v : Value} {m base : Nat} {F : Nat → Prop} {S : P2 → Prop} {X Y : TC} {kx ky : List Tr} (h : SmM F base m v wr q LL E S) (hx : RK F wr (Rt F wr) X.ka X.kn kx) (hy : RK F wr (Rt F wr) Y.ka Y.kn ky) (hn : X.kn = Y.kn) {pa pb : Option Addr} (ha : (if X.kn = 0 then none else X.ka) = pa) (hb : (if Y.kn = 0 then none else Y.ka) = pb) (hm : ∃ u, (sp2 pa X.kn pb Y.kn, u) ∈ E) : ∀ r ∈ kx.zip ky, S r := by
 intro r hr
 by_cases h0 : X.kn = 0
 ·rw [List.length_eq_zero_iff.1 (hx.1.trans h0)] at hr
  cases hr
 ·rw [if_neg h0] at ha
  rw [if_neg (hn ▸ h0)] at hb
  subst ha hb
  exact h.known (s1 := ⟨X.ka, X.kn, X.kc⟩) (s2 := ⟨Y.ka, Y.kn, Y.kc⟩) hx hy hm r hr
end Sx
end Go.Proofs.YtgpaajolcpgeaaaGreatDoor

namespace Go.Proofs.YtgpaajolcpgeaaaGreatDoor
open Go.RowKit
namespace Sx

abbrev cV (m : Nat) : Value := .agg #[.map (some m)]
/-- the copier's variable -/
def CB (w : World) (b m : Nat) : Prop := w.heap[b]? = some (.cells #[.map (some m)] 99 (0, 0))
theorem CB.lt {w : World} {b m : Nat} (h : CB w b m) : b < w.heap.size := lt_of_block h
theorem CB.c0 {w : World} {b m : Nat} (h : CB w b m) : w.cell? ⟨b, 0, none⟩ = some (.map (some m)) := cell_of_row w b 0 _ _ (0, 0) h
theorem CB.grown {w w' : World} {b m : Nat} (h : CB w b m) (k : w.grownBy w' (some m)) (hb : b ≠ m) : CB w' b m := (k.block b h.lt fun e => hb (Option.some.inj e)).trans h
theorem CB.below {w w' : World} {b m : Nat} (h : CB w b m) (k : Below w.heap.size w w') : CB w' b m := (k.block b h.lt).trans h
theorem cb_new (w : World) (m : Nat) : CB (w.alloc (.cells #[.map (some m)] 99)) w.heap.size m := heap_alloc_new w _
/-- the lists that it is within: none that is smaller -/
def OpC (F : Nat → Prop) (w : World) (f N : Nat) (E : List (Value × Value)) : Prop := ∀ p ∈ E, ∃ (sl : SlT) (L : List Tr), p.1 = spV sl.ka sl.kn ∧ KL F w sl L ∧ N ≤ cnL f L
theorem OpC.kf {F : Nat → Prop} {w w' : World} {f N : Nat} {E : List (Value × Value)} (h : OpC F w f N E) (k : Kf F w w') : OpC F w' f N E := fun p hp => by
 obtain ⟨sl, L, h1, h2, h3⟩ := h p hp
 exact ⟨sl, L, h1, KL.kf h2 k, h3⟩
theorem OpC.mono {F : Nat → Prop} {w : World} {f N N' : Nat} {E : List (Value × Value)} (h : OpC F w f N E) (hN : N' ≤ N) : OpC F w f N' E := fun p hp => by
 obtain ⟨sl, L, h1, h2, h3⟩ := h p hp
 exact ⟨sl, L, h1, h2, Nat.le_trans hN h3⟩
theorem OpC.not {F F1 : Nat → Prop} {w : World} {f N : Nat} {E : List (Value × Value)} (h : OpC F w f N E) {sl : SlT} {L : List Tr} (hk : KL F1 w sl L) (hl : cnL f L < N) : ∀ p ∈ E, p.1 ≠ spV sl.ka sl.kn := fun p hp e => by
 obtain ⟨sl2, L2, h1, h2, h3⟩ := h p hp
 rw [e] at h1
 simp only [spV, Value.agg.injEq, Array.mk.injEq, List.cons.injEq, Value.pointer.injEq, Value.int.injEq, true_and, and_true] at h1
 obtain ⟨e5, e6⟩ := h1
 have e6' : sl.kn = sl2.kn := by omega
 unfold KL at hk h2
 rw [e5, e6'] at hk
 rw [rk_only hk h2] at hl
 omega
/-- what tree answers: a tree in new memory -/
def CtR (F : Nat → Prop) (m : Nat) (w : World) (E : List (Value × Value)) (t : Tr) (en : Ending) (w' : World) : Prop :=
 ∃ y : TC, en = .returned y.val ∧ Rt (fun b => w.heap.size ≤ b) w' y t ∧ (∃ E', Met F w' m E' ∧ ∀ p ∈ E', p ∈ E) ∧ w.grownBy w' (some m)
/-- what kids answers -/
def CkK (F : Nat → Prop) (m : Nat) (w : World) (E : List (Value × Value)) (L : List Tr) (en : Ending) (w' : World) : Prop :=
 ∃ (a : Option Addr) (n c : Nat), en = .returned (.slice a n c) ∧ KL (fun b => w.heap.size ≤ b) w' ⟨a, n, c⟩ L ∧ (∃ E', Met F w' m E' ∧ ∀ p ∈ E', p ∈ E) ∧ w.grownBy w' (some m)
def CtP (F : Nat → Prop) (m f g : Nat) : Prop := ∀ {w : World} {E : List (Value × Value)} {x : TC} {t : Tr}, Met F w m E → Rt F w x t → ¬ Dp g t → ¬ Dp f t → Al Bd4 t → cntF f t ≤ 1073741824 → OpC F w f (cntF f t) E → (∀ b, F b → b < m) →
 Calls Tryz.prog 55 #[cV m, x.val] w (CtR F m w E (cpT g t))
def CkP (F : Nat → Prop) (m f g : Nat) : Prop := ∀ {w : World} {E : List (Value × Value)} {ka : Option Addr} {kn kc : Nat} {L : List Tr}, Met F w m E → KL F w ⟨ka, kn, kc⟩ L → (∀ u ∈ L, ¬ Dp g u) → (∀ u ∈ L, ¬ Dp f u) → (∀ u ∈ L, Al Bd4 u) → cnL f L ≤ 1073741824 → OpC F w f (cnL f L + 1) E → (∀ b, F b → b < m) →
 Calls Tryz.prog 96 #[cV m, .slice ka kn kc] w (CkK F m w E (L.map (cpT g)))
/-- a number that stands is a copy's -/
theorem cp_num {B : Nat} {w : World} {s : Bool} {ad : Option Addr} {len cap : Nat} {l : Lab} (h : Fresh.Zn B w s ad len cap (nmZ l)) : decide (nmZ l < 0) = s ∧ Rd w ad len cap (cl (nmZ l).natAbs) ∧ InS (fun b => B ≤ b) ad len := by
 obtain ⟨n, ⟨⟨zs, h1, h2, h3⟩, h4, h5⟩, h6, h7⟩ := h
 have hn : 0 ≤ n := h3 ▸ val_nonneg h2.1
 obtain ⟨e1, e2⟩ := cp_of h2 h3 h6 h7 hn
 refine ⟨e1, by rw [e2]; exact h1, fun b off e h0 => ?_⟩
 rcases h5 with ⟨e3, -⟩ | ⟨b', xs, e3, hb, -⟩
 ·rw [e3] at e
  cases e
 ·rw [e3] at e
  cases e
  exact hb
theorem rt_only3 {w w' : World} {r : Nat} {x : TC} {t : Tr} {F : Nat → Prop} (h : Rt F w x t) (hF : ∀ b, F b → b ≠ r) (o : Only r w w') : Rt F w' x t := h.kf ⟨by rw [o.size]; exact Nat.le_refl _, fun b hb _ => o.block b (hF b hb)⟩
/-- append of a text to a row of one's own -/
theorem appSw {w : World} {ops : Array Oper} {rest : List Oper} {o : Oper} {a : Act} {Q : Exit → Act → World → Prop} (hgd : o.guard = none) (s x : Operand) (ho : o.op = .call { callee := .builtin .append, args := #[s, x], argTypes := #[22, 22] }) (base : Nat) (v : Value) (n : Nat) (l : List ByteArray) (hs : a.eval s = v) (hown : w.ownsRow base 9 1 v n (l.map Value.string))
  (t : ByteArray) (g : Nat) (hx : a.eval x = .slice (some ⟨g, 0, none⟩) 1 1) (hc : w.cell? ⟨g, 0, none⟩ = some (.string t)) (h63 : n + 1 ≤ 4294967296) (hbase : base ≤ w.heap.size)
  (h : ∀ v' w', w'.ownsRow base 9 1 v' (n + 1) ((l ++ [t]).map Value.string) → w.grownBy w' v.ownBlock → (v'.ownBlock = v.ownBlock ∨ v'.ownBlock = some w.heap.size) → wpList Tryz.prog ops Q rest (a.put o.dst v') w') : wpList Tryz.prog ops Q (o :: rest) a w := by
 obtain ⟨i0, hi, hz0, hz1, hz2⟩ := info_parts infoStr
 refine wpList_append_own_at w hgd s x 22 ho base 9 i0 _ 1 16 Tryz.underlying22 hi hz0 hz1 hz2 rfl (by decide) v n (l.map Value.string) hs hown ⟨g, 0, none⟩ 1 1 [.string t] hx rfl (fun j u hu => ?_) (str_one [t]) (by unfold maxLen; omega) (by omega) hbase ?_
 ·cases j with
  | zero =>
   cases hu
   exact hc
  | succ j => simp at hu
 ·intro v' w' h1 h2 _ h4
  refine h v' w' ?_ h2 h4
  rw [List.map_append]
  exact h1
end Sx
end Go.Proofs.YtgpaajolcpgeaaaGreatDoor

namespace Go.Proofs.YtgpaajolcpgeaaaGreatDoor
open Go.RowKit
namespace Sx

set_option maxRecDepth 100000 in
set_option maxHeartbeats 6400000 in
theorem ctree_step {F : Nat → Prop} {m f g : Nat} (hKd : CkP F m f g) : CtP F m f (g + 1) := by
 intro w E x t h hx hg hf hB hN hO hF
 obtain ⟨lb, ks, rfl⟩ := rt_of hx
 have b0 := below_alloc w (.cells #[.map (some m)] 99)
 have b1 := below_alloc (w.alloc (.cells #[.map (some m)] 99)) (.cells #[.int .i64 x.k, .string x.nm, .slice x.na x.nn x.nc, .bool x.s, .slice x.a x.l x.c, .slice x.ka x.kn x.kc] 28)
 have b2 := below_alloc ((w.alloc (.cells #[.map (some m)] 99)).alloc (.cells #[.int .i64 x.k, .string x.nm, .slice x.na x.nn x.nc, .bool x.s, .slice x.a x.l x.c, .slice x.ka x.kn x.kc] 28)) (.cells #[.int .i64 0, .string ⟨#[]⟩, .slice none 0 0, .bool false, .slice none 0 0, .slice none 0 0] 28)
 have y0 := ((cb_new w m).below b1).below b2
 have y1 := (vb_new (w.alloc (.cells #[.map (some m)] 99)) x).below b2
 have y2 := vb_zero ((w.alloc (.cells #[.map (some m)] 99)).alloc (.cells #[.int .i64 x.k, .string x.nm, .slice x.na x.nn x.nc, .bool x.s, .slice x.a x.l x.c, .slice x.ka x.kn x.kc] 28))
 rw [show (w.alloc (.cells #[.map (some m)] 99)).heap.size = w.heap.size + 1 by simp] at y1
 rw [show ((w.alloc (.cells #[.map (some m)] 99)).alloc (.cells #[.int .i64 x.k, .string x.nm, .slice x.na x.nn x.nc, .bool x.s, .slice x.a x.l x.c, .slice x.ka x.kn x.kc] 28)).heap.size = w.heap.size + 2 by simp] at y2
 have kk := (grow_step b2 (grow_step b1 b0))
 have h1 := Met.below h kk
 have hx1 := rt_below hx kk
 have hO1 := hO.kf (Kf.of_below kk)
 have hmw : m < w.heap.size := h.lt
 go_enter Tryz.func55, Tryz.ntmps55
 iterate 10 (first | go_skip | go_guarded | go_step | go_upon | go_simp)
 generalize ((w.alloc (.cells #[.map (some m)] 99)).alloc (.cells #[.int .i64 x.k, .string x.nm, .slice x.na x.nn x.nc, .bool x.s, .slice x.a x.l x.c, .slice x.ka x.kn x.kc] 28)).alloc (.cells #[.int .i64 0, .string ⟨#[]⟩, .slice none 0 0, .bool false, .slice none 0 0, .slice none 0 0] 28) = W at *
 clear b0 b1 b2 h hx hO
 obtain ⟨hrl, hrk⟩ := rt_nd hx1
 have hsW : w.heap.size + 3 ≤ W.heap.size := by have := y2.lt; omega
 generalize hz : w.heap.size = bw at *
 rw [show bw + 1 + 1 = bw + 2 from rfl]
 replace hz := hide hz
 have c2 := y1.c2
 have hnl := hrl.nms.1
 have hBl := hB.self
 rw [lbO_nd] at hBl
 have hnn : x.nn ≤ 1073741824 := by rw [← hnl]; exact hBl.nn
 replace y0 := hide y0
 replace y1 := hide y1
 replace y2 := hide y2
 replace h1 := hide h1
 replace hrk := hide hrk
 replace hrl := hide hrl
 replace hO1 := hide hO1
 replace kk := hide kk
 replace hnl := hide hnl
 clear hx1
 go_wp2_with fail
 clear c2
 go_loopw [5, 11] (fun v i wr => ∃ j : Nat, j ≤ x.nn ∧ i = .int .i64 j ∧ Hid (wr.ownsRow W.heap.size 9 1 v j ((lb.nms.take j).map Value.string)) ∧ Hid (Below W.heap.size W wr)) (fun _ i _ => x.nn - (intOf i).toNat)
 case atStart => exact ⟨0, Nat.zero_le _, rfl, hide ⟨rfl, .inl ⟨rfl, rfl⟩⟩, hide (Below.refl _ _)⟩
 case round =>
  obtain ⟨j, hj, rfl, ho, kr⟩ := hrel
  by_cases hjn : j < x.nn
  ·have hlt : decide ((j : Int) < (x.nn : Int)) = true := by
    rw [decide_eq_true_eq]
    omega
   have hi2 : (j : Int) < (x.nn : Int) := by omega
   have hjL : j < lb.nms.length := by rw [hnl.out]; exact hjn
   obtain ⟨n0, hn0⟩ : ∃ n0, lb.nms[j] = n0 := ⟨_, rfl⟩
   obtain ⟨bn, off, hna, hFn, hbn, hcn⟩ := (hrl.out.nms.kf (Kf.of_below kr.out)).2.resolve_left (show ¬ x.nn = 0 by omega)
   have ct : wr.cell? ⟨bn, off + j, none⟩ = some (.string n0) := by rw [← hn0]; exact hcn j hjL
   have htk : lb.nms.take (j + 1) = lb.nms.take j ++ [n0] := by rw [List.take_succ_eq_append_getElem hjL, hn0]
   have hsz : n0.size ≤ 1073741824 := hBl.ns n0 (hn0 ▸ List.getElem_mem hjL)
   have hcl := hide (clone_n n0 wr (by omega))
   have hwj : IntKind.i64.wrap ((j : Int) + 1) = ((j + 1 : Nat) : Int) := by
    rw [IntKind.wrap_i64]
    omega
   clear hcn hn0 hFn hbn
   rw [hna]
   go_wp2_with fail
   refine hcl.out.mono ?_
   rintro en w2 ⟨rfl, k2⟩
   have b3 := below_alloc w2 (.cells #[.string n0] 9)
   have k3 := grow_step b3 k2
   have ho3 := hide (ho.out.kept (gb_of (m := (w2.alloc (.cells #[.string n0] 9)).heap.size) k3) (by
    rcases Option.eq_none_or_eq_some u5.ownBlock with e | ⟨b, e⟩
    ·exact .inl e
    ·refine .inr fun e2 => ?_
     have := (ho.out.lt b e).2
     have := k3.size
     rw [e] at e2
     cases e2
     omega))
   have hc3 : Hid ((w2.alloc (.cells #[.string n0] 9)).cell? ⟨w2.heap.size, 0, none⟩ = some (.string n0)) := hide (cell_of_row _ w2.heap.size 0 _ _ (0, 0) (heap_alloc_new w2 _))
   have k4 := kr.out.trans (k3.mono kr.out.size)
   have hsz4 : W.heap.size ≤ (w2.alloc (.cells #[.string n0] 9)).heap.size := k4.size
   have hob : ∀ b, u5.ownBlock = some b → W.heap.size ≤ b := fun b e => (ho.out.lt b e).1
   replace k4 := hide k4
   replace hob := hide hob
   clear hcl k2 b3 k3 ct kr
   go_wp2_with (refine appSw rfl _ _ rfl W.heap.size _ j (lb.nms.take j) rfl ho3.out n0 w2.heap.size rfl hc3.out (by omega) hsz4 ?_)
   intro v' w6 ho6 hg6 hb6
   have k6 : Hid (Below W.heap.size W w6) := hide ⟨hg6.os.trans k4.out.os, hg6.tape.trans k4.out.tape, hg6.output.trans k4.out.output, Nat.le_trans k4.out.size hg6.size, fun i hi => (hg6.block i (Nat.lt_of_lt_of_le hi k4.out.size) (fun e => by have := hob.out i e.symm; omega)).trans (k4.out.block i hi)⟩
   replace ho6 : w6.ownsRow W.heap.size 9 1 v' (j + 1) ((lb.nms.take (j + 1)).map Value.string) := by
    rw [htk, List.map_append, List.map_take]
    exact ho6
   obtain ⟨av6, cv6, rfl, -⟩ := own_nml ho6
   replace ho6 := hide ho6
   clear hg6 hb6 ho3 hc3 k4 ho
   go_wp2
   go_roundw
   case measure => simp [intOf]; omega
   case rel => exact ⟨j + 1, by omega, rfl, ho6, k6⟩
  ·obtain rfl : j = x.nn := by omega
   have hlt : decide ((x.nn : Int) < (x.nn : Int)) = false := by simp
   rw [show lb.nms.take x.nn = lb.nms by rw [← hnl.out]; exact List.take_length] at ho
   obtain ⟨na2, nc2, rfl, hnm2⟩ := own_nml ho.out
   have kw := hide (kk.out.trans (kr.out.mono (by omega)))
   have yx := y1.out.below kr.out
   have yc := y0.out.below kr.out
   have yr := hide (y2.out.below kr.out)
   have h2 := hide (Met.below h1.out kr.out)
   have hrk2 := hide (KL.kf (s := ⟨x.ka, x.kn, x.kc⟩) hrk.out (Kf.of_below kr.out))
   have hrd2 := hide (hrl.out.rd.below kr.out)
   have hO2 := hide (hO1.out.kf (Kf.of_below kr.out))
   have hlk := hide hrl.out.k
   have hln := hide hrl.out.nm
   have hls := hide hrl.out.s
   have hxl : x.l ≤ 1073741824 := by rw [← hrl.out.rd.1]; exact hBl.xs
   have hxn : x.nm.size ≤ 1073741824 := by rw [← hrl.out.nm]; exact hBl.nm
   have hcs := cnt_self hf
   rw [ksO_nd] at hcs
   have hS : ∀ W', wr.grownBy W' (some m) → (W'.cell? ⟨bw + 1, 0, none⟩ = some (.int .i64 x.k) ∧ W'.cell? ⟨bw + 1, 1, none⟩ = some (.string x.nm) ∧ W'.cell? ⟨bw + 1, 3, none⟩ = some (.bool x.s) ∧ W'.cell? ⟨bw + 1, 4, none⟩ = some (.slice x.a x.l x.c) ∧ W'.cell? ⟨bw + 1, 5, none⟩ = some (.slice x.ka x.kn x.kc)) ∧ W'.cell? ⟨bw, 0, none⟩ = some (.map (some m)) := fun W' k => by
    have hv := yx.grown k (by omega)
    exact ⟨⟨hv.c0, hv.c1, hv.c3, hv.c4, hv.c5⟩, (yc.grown k (by omega)).c0⟩
   have hwz : Hid (W.heap.size ≤ wr.heap.size) := hide kr.out.size
   replace hnm2 := hide hnm2
   clear ho kr h1 hrk hrl hO1 y0 y1 y2 kk yx yc
   go_upto_region 7 with (fail)
   refine wp_region_held_drew (S := fun W' => (W'.cell? ⟨bw + 1, 0, none⟩ = some (.int .i64 x.k) ∧ W'.cell? ⟨bw + 1, 1, none⟩ = some (.string x.nm) ∧ W'.cell? ⟨bw + 1, 3, none⟩ = some (.bool x.s) ∧ W'.cell? ⟨bw + 1, 4, none⟩ = some (.slice x.a x.l x.c) ∧ W'.cell? ⟨bw + 1, 5, none⟩ = some (.slice x.ka x.kn x.kc)) ∧ W'.cell? ⟨bw, 0, none⟩ = some (.map (some m))) (by kernel_rfl) (hS _ (gb_of (grow_drew (Below.refl _ _)))) (fun hHeld => ?_)
   show wpAnyH _ _ _ _ _ 15 _ _ _
   have kW := grow_drew (Below.refl wr.heap.size wr)
   generalize wr.drew = wD at *
   refine wpAnyH_take (i := 0) (oi := ⟨some 21, _, _, _, _, _⟩) (v := ?_) rfl (by kernel_rfl) (by kernel_rfl) (by kernel_rfl) (fun _ _ _ h => by first | exact h | cases h.1) (Or.inl ⟨by rfl, ?_⟩) (by assumption) ?_
   rotate_left
   ·intro wq hSw; (try dsimp only at hSw); go_simp; (try with_reducible rfl)
   (try simp only [Act.put, List.setIfInBounds_toArray, List.set_cons_zero, List.set_cons_succ])
   refine wpAnyH_take (i := 1) (oi := ⟨some 22, _, _, _, _, _⟩) (v := ?_) rfl (by kernel_rfl) (by kernel_rfl) (by kernel_rfl) (fun _ _ _ h => by first | exact h | cases h.1) (Or.inl ⟨by rfl, ?_⟩) (by assumption) ?_
   rotate_left
   ·intro wq hSw; (try dsimp only at hSw); go_simp; (try with_reducible rfl)
   (try simp only [Act.put, List.setIfInBounds_toArray, List.set_cons_zero, List.set_cons_succ])
   refine wpAnyH_take (i := 2) (oi := ⟨some 23, _, _, _, _, _⟩) (v := ?_) rfl (by kernel_rfl) (by kernel_rfl) (by kernel_rfl) (fun _ _ _ h => by first | exact h | cases h.1) (Or.inl ⟨by rfl, ?_⟩) (by assumption) ?_
   rotate_left
   ·intro wq hSw; (try dsimp only at hSw); go_simp; (try with_reducible rfl)
   (try simp only [Act.put, List.setIfInBounds_toArray, List.set_cons_zero, List.set_cons_succ])
   refine wpAnyH_take (i := 3) (oi := ⟨some 24, _, _, _, _, _⟩) (v := ?_) rfl (by kernel_rfl) (by kernel_rfl) (by kernel_rfl) (fun _ _ _ h => by first | exact h | cases h.1) (Or.inl ⟨by rfl, ?_⟩) (by assumption) ?_
   rotate_left
   ·intro wq hSw; (try dsimp only at hSw); go_simp; (try with_reducible rfl)
   (try simp only [Act.put, List.setIfInBounds_toArray, List.set_cons_zero, List.set_cons_succ])
   refine wpAnyH_take (i := 5) (oi := ⟨some 26, _, _, _, _, _⟩) (v := ?_) rfl (by kernel_rfl) (by kernel_rfl) (by kernel_rfl) (fun _ _ _ h => by first | exact h | cases h.1) (Or.inl ⟨by rfl, ?_⟩) (by assumption) ?_
   rotate_left
   ·intro wq hSw; (try dsimp only at hSw); go_simp; (try with_reducible rfl)
   (try simp only [Act.put, List.setIfInBounds_toArray, List.set_cons_zero, List.set_cons_succ])
   refine wpAnyH_take (i := 6) (oi := ⟨some 27, _, _, _, _, _⟩) (v := ?_) rfl (by kernel_rfl) (by kernel_rfl) (by kernel_rfl) (fun _ _ _ h => by first | exact h | cases h.1) (Or.inl ⟨by rfl, ?_⟩) (by assumption) ?_
   rotate_left
   ·intro wq hSw; (try dsimp only at hSw); go_simp; (try with_reducible rfl)
   (try simp only [Act.put, List.setIfInBounds_toArray, List.set_cons_zero, List.set_cons_succ])
   refine wpAnyH_take (i := 7) (oi := ⟨some 28, _, _, _, _, _⟩) (v := ?_) rfl (by kernel_rfl) (by kernel_rfl) (by kernel_rfl) (fun _ _ _ h => by first | exact h | cases h.1) (Or.inl ⟨by rfl, ?_⟩) (by assumption) ?_
   rotate_left
   ·intro wq hSw; (try dsimp only at hSw); go_simp; (try with_reducible rfl)
   (try simp only [Act.put, List.setIfInBounds_toArray, List.set_cons_zero, List.set_cons_succ])
   refine wpAnyH_take (i := 9) (oi := ⟨some 30, _, _, _, _, _⟩) (v := ?_) rfl (by kernel_rfl) (by kernel_rfl) (by kernel_rfl) (fun _ _ _ h => by first | exact h | cases h.1) (Or.inl ⟨by rfl, ?_⟩) (by assumption) ?_
   rotate_left
   ·intro wq hSw; (try dsimp only at hSw); go_simp; (try with_reducible rfl)
   (try simp only [Act.put, List.setIfInBounds_toArray, List.set_cons_zero, List.set_cons_succ])
   refine wpAnyH_take (i := 10) (oi := ⟨some 31, _, _, _, _, _⟩) (v := ?_) rfl (by kernel_rfl) (by kernel_rfl) (by kernel_rfl) (fun _ _ _ h => by first | exact h | cases h.1) (Or.inl ⟨by rfl, ?_⟩) (by assumption) ?_
   rotate_left
   ·intro wq hSw; (try dsimp only at hSw); go_simp; (try with_reducible rfl)
   (try simp only [Act.put, List.setIfInBounds_toArray, List.set_cons_zero, List.set_cons_succ])
   refine wpAnyH_take (i := 11) (oi := ⟨some 32, _, _, _, _, _⟩) (v := ?_) rfl (by kernel_rfl) (by kernel_rfl) (by kernel_rfl) (fun _ _ _ h => by first | exact h | cases h.1) (Or.inl ⟨by rfl, ?_⟩) (by assumption) ?_
   rotate_left
   ·intro wq hSw; (try dsimp only at hSw); go_simp; (try with_reducible rfl)
   (try simp only [Act.put, List.setIfInBounds_toArray, List.set_cons_zero, List.set_cons_succ])
   refine wpAnyH_ready (rs := [4]) (by kernel_rfl) (by simp) ?_
   refine AllReadyH.cons (o := ⟨some 25, _, _, _, _, _⟩) rfl (fun K hK => ?_) AllReadyH.nil
   go_simp
   refine Calls.mono (clone_n x.nm wD (by omega)) ?_
   rintro en w3 ⟨rfl, k3⟩
   have kW := grow_step k3 kW
   (try go_wp2_with fail)
   refine hK.out _ _ ?_ ?_
   ·exact hS _ (gb_of kW)
   clear hK K hHeld; intro hHeld
   (try simp only [Act.put, List.setIfInBounds_toArray, List.set_cons_zero, List.set_cons_succ])
   refine wpAnyH_ready (rs := [8]) (by kernel_rfl) (by simp) ?_
   refine AllReadyH.cons (o := ⟨some 29, _, _, _, _, _⟩) rfl (fun K hK => ?_) AllReadyH.nil
   go_simp
   refine Calls.mono (Fresh.norm_n (Fresh.zm_of (B := wr.heap.size) (zm_rd (sn := x.s) (hrd2.out.below kW)) kW.size) (by omega)) ?_
   rintro en w4 ⟨s4, ad, len, cap, rfl, hzn, k4, -⟩
   rw [show sg x.s (val lb.xs) = nmZ lb by unfold nmZ; rw [hls.out]] at hzn
   have kW4 := grow_step k4 kW
   (try go_wp2_with fail)
   refine hK.out _ _ ?_ ?_
   ·exact hS _ (gb_of kW4)
   clear hK K hHeld; intro hHeld
   (try simp only [Act.put, List.setIfInBounds_toArray, List.set_cons_zero, List.set_cons_succ])
   refine wpAnyH_ready (rs := [12]) (by kernel_rfl) (by simp) ?_
   refine AllReadyH.cons (o := ⟨some 33, _, _, _, _, _⟩) rfl (fun K hK => ?_) AllReadyH.nil
   go_simp
   refine Calls.mono (hKd (Met.below h2.out kW4) (KL.kf hrk2.out (Kf.of_below kW4)) (fun u hu ⟨v, hv⟩ => hg ⟨v, u, by rw [ksO_nd]; exact hu, hv⟩) (fun u hu => dp_kid hf (by rw [ksO_nd]; exact hu)) (fun u hu => hB.kid (by rw [ksO_nd]; exact hu)) (by omega) ((hO2.out.kf (Kf.of_below kW4)).mono (by omega)) hF) ?_
   rintro en w5 ⟨a5, n5, c5, rfl, hk5, ⟨E5, hm5, hE5⟩, g5⟩
   have gW5 := gbb (gb_of kW4) g5
   (try go_wp2_with fail)
   refine hK.out _ _ ?_ ?_
   ·exact hS _ gW5
   clear hK K hHeld; intro hHeld
   (try simp only [Act.put, List.setIfInBounds_toArray, List.set_cons_zero, List.set_cons_succ])
   refine wpAnyH_ready (rs := [13]) (by kernel_rfl) (by simp) ?_
   refine AllReadyH.cons (o := ⟨some 34, _, _, _, _, _⟩) rfl (fun K hK => ?_) AllReadyH.nil
   go_simp
   refine hK.out _ _ ?_ ?_
   ·exact hS _ gW5
   clear hK K hHeld; intro hHeld
   (try simp only [Act.put, List.setIfInBounds_toArray, List.set_cons_zero, List.set_cons_succ])
   refine wpAnyH_ready (rs := [14]) (by kernel_rfl) (by simp) ?_
   refine AllReadyH.cons (o := ⟨none, _, _, _, _, _⟩) rfl (fun K hK => ?_) AllReadyH.nil
   have y3 := yr.out.grown gW5 (by omega)
   have q0 := y3.c0
   have f0 := y3.f 0
   have q1 := y3.c1
   have f1 := y3.f 1
   have q2' := y3.c2
   have f2 := y3.f 2
   have q3 := y3.c3
   have f3 := y3.f 3
   have q4 := y3.c4
   have f4 := y3.f 4
   have q5 := y3.c5
   have f5 := y3.f 5
   have ho := v_only w5 (bw + 2) ⟨x.k, x.nm, na2, x.nn, nc2, s4, ad, len, cap, a5, n5, c5⟩
   have hfin := hide (vb_set y3 ⟨x.k, x.nm, na2, x.nn, nc2, s4, ad, len, cap, a5, n5, c5⟩)
   have hS5 := hS _ gW5
   go_simp
   rw [v_fold w5 (bw + 2) ⟨x.k, x.nm, na2, x.nn, nc2, s4, ad, len, cap, a5, n5, c5⟩]
   refine hK.out _ _ ?_ ?_
   ·have e1 : ∀ i, (vSet w5 (bw + 2) ⟨x.k, x.nm, na2, x.nn, nc2, s4, ad, len, cap, a5, n5, c5⟩).cell? ⟨bw + 1, i, none⟩ = w5.cell? ⟨bw + 1, i, none⟩ := fun i => World.cell?_of_block (a := ⟨bw + 1, i, none⟩) (ho.block (bw + 1) (by omega))
    have e0 : ∀ i, (vSet w5 (bw + 2) ⟨x.k, x.nm, na2, x.nn, nc2, s4, ad, len, cap, a5, n5, c5⟩).cell? ⟨bw, i, none⟩ = w5.cell? ⟨bw, i, none⟩ := fun i => World.cell?_of_block (a := ⟨bw, i, none⟩) (ho.block bw (by omega))
    rw [e1, e1, e1, e1, e1, e0]
    exact hS5
   clear hK K hHeld; intro hHeld
   (try simp only [Act.put, List.setIfInBounds_toArray, List.set_cons_zero, List.set_cons_succ])
   refine wpAnyH_done (by kernel_rfl) ?_ _
   have hres : Hid (CtR F m w E (cpT (g + 1) (nd lb ks)) (.returned (TC.val ⟨x.k, x.nm, na2, x.nn, nc2, s4, ad, len, cap, a5, n5, c5⟩)) (vSet w5 (bw + 2) ⟨x.k, x.nm, na2, x.nn, nc2, s4, ad, len, cap, a5, n5, c5⟩)) := hide (by
    obtain ⟨hd, hrd, hin⟩ := cp_num hzn
    have hwz' := hwz.out
    have kA : Kf (fun b => W.heap.size ≤ b) w5 (vSet w5 (bw + 2) ⟨x.k, x.nm, na2, x.nn, nc2, s4, ad, len, cap, a5, n5, c5⟩) := ⟨by rw [ho.size]; exact Nat.le_refl _, fun b hb _ => ho.block b (by omega)⟩
    have kB : Kf (fun b => W.heap.size ≤ b) w4 w5 := Kf.of_grown g5 (by omega)
    have kC : Kf (fun b => W.heap.size ≤ b) wr w4 := Kf.of_below kW4
    have s4' : W.heap.size ≤ w4.heap.size := Nat.le_trans hwz' kW4.size
    refine ⟨_, rfl, ?_, ⟨E5, Met.kf hm5 (ho.block m (by omega)) ⟨by rw [ho.size]; exact Nat.le_refl _, fun b hb _ => ho.block b (by have := hF b hb; omega)⟩, hE5⟩, ?_⟩
    ·rw [cpT_nd]
     refine Rt.imp (F := fun b => W.heap.size ≤ b) (rt_mk ⟨hlk.out, hln.out, hd, ((hnm2.out.kf kC).kf kB).kf kA, ?_, ?_⟩ ?_) fun b hb => by rw [hz.out]; omega
     ·exact rd_kf (rd_kf hrd (fun b off e h0 => Nat.le_trans hwz' (hin b off e h0)) kB) (fun b off e h0 => Nat.le_trans hwz' (hin b off e h0)) kA
     ·exact fun b off e h0 => Nat.le_trans hwz' (hin b off e h0)
     ·exact KL.kf (s := ⟨a5, n5, c5⟩) (KL.imp (s := ⟨a5, n5, c5⟩) hk5 fun b hb => Nat.le_trans s4' hb) kA
    ·have gw : w.grownBy wr (some m) := ⟨kw.out.os, kw.out.tape, kw.out.output, kw.out.size, fun i hi _ => kw.out.block i (hz.out ▸ hi)⟩
     exact gb_only (gbb gw gW5) ho (by rw [hz.out]; omega))
   clear q0 q1 q2' q3 q4 q5 f0 f1 f2 f3 f4 f5 hHeld y3 hS5 hS kW kW4 gW5 g5 k4 k3 hzn hk5 hm5 hE5 yr h2 hrk2 hrd2 hO2 hlk hln hls hnm2 ho
   go_wp2
   refine bodyPost_ret (results_cell_row rfl _ _ (bw + 2) 28 _ (0, 0) _ rfl hfin.out Tryz.underlying28 rfl (by kernel_rfl)) rfl ?_
   exact hres.out
end Sx
end Go.Proofs.YtgpaajolcpgeaaaGreatDoor

namespace Go.Proofs.YtgpaajolcpgeaaaGreatDoor
open Go.RowKit
namespace Sx

theorem run_mkT (n : Nat) (hn : n ≤ 1073741824) (u : World) : ∃ cs : Array Value, cs.size = n * 6 ∧ (∀ i k, i < n → k < 6 → cs[i * 6 + k]? = tz.enc[k]?) ∧ (Instr.makeSlice 26 (.int .i64 (n : Int)) (.int .i64 (n : Int))).run Tryz.prog u = .ok (.slice (some ⟨u.heap.size, 0, none⟩) n n) (u.alloc (.cells cs 28)) := by
 obtain ⟨i0, hi, hz0, hz1, hz2⟩ := info_parts infoTree
 have h := run_make (P := Tryz.prog) u 26 28 i0 _ Tryz.underlying26 hi hz0 .i64 .i64 (n : Int) (n : Int) (by omega) (by omega) (by rw [hz2]; omega) (by omega)
 rw [Int.toNat_natCast, hz1] at h
 refine ⟨_, size_madeCells _ _, fun i k hi hk => ?_, h⟩
 unfold madeCells
 rw [Array.getElem?_map, Array.getElem?_range, if_pos (by omega)]
 show some _ = _
 have e : (i * 6 + k) % 6 = k := by omega
 match k, hk with
 | 0, _ => simp [Value.cells, tz, TC.enc]
 | 1, _ => simp [Value.cells, e, tz, TC.enc]
 | 2, _ => simp [Value.cells, e, tz, TC.enc]
 | 3, _ => simp [Value.cells, e, tz, TC.enc]
 | 4, _ => simp [Value.cells, e, tz, TC.enc]
 | 5, _ => simp [Value.cells, e, tz, TC.enc]
/-- a tree is stored in a row -/
def tSet (w : World) (b o : Nat) (x : TC) : World := (((((w.setCell ⟨b, o, none⟩ (.int .i64 x.k)).setCell ⟨b, o + 1, none⟩ (.string x.nm)).setCell ⟨b, o + 2, none⟩ (.slice x.na x.nn x.nc)).setCell ⟨b, o + 3, none⟩ (.bool x.s)).setCell ⟨b, o + 4, none⟩ (.slice x.a x.l x.c)).setCell ⟨b, o + 5, none⟩ (.slice x.ka x.kn x.kc)
theorem t_only (w : World) (b o : Nat) (y : TC) : Only b w (tSet w b o y) :=
 (((((Only.set b o w _).trans (Only.set b (o + 1) _ _)).trans (Only.set b (o + 2) _ _)).trans (Only.set b (o + 3) _ _)).trans (Only.set b (o + 4) _ _)).trans (Only.set b (o + 5) _ _)
theorem t_set {w : World} {b o : Nat} {cur : Array Value} {t : TypeId} (h : w.heap[b]? = some (.cells cur t (0, 0))) (x : TC) (ho : o + 6 ≤ cur.size) :
  ∃ cur' : Array Value, (tSet w b o x).heap[b]? = some (.cells cur' t (0, 0)) ∧ cur'.size = cur.size ∧ (∀ k, k < 6 → cur'[o + k]? = x.enc[k]?) ∧ ∀ i, i < o ∨ o + 6 ≤ i → cur'[i]? = cur[i]? := by
 have y0 := heap_setCell_same w b o _ t (.int .i64 x.k) h
 have y1 := heap_setCell_same _ b (o + 1) _ t (.string x.nm) y0
 have y2 := heap_setCell_same _ b (o + 2) _ t (.slice x.na x.nn x.nc) y1
 have y3 := heap_setCell_same _ b (o + 3) _ t (.bool x.s) y2
 have y4 := heap_setCell_same _ b (o + 4) _ t (.slice x.a x.l x.c) y3
 have y5 := heap_setCell_same _ b (o + 5) _ t (.slice x.ka x.kn x.kc) y4
 refine ⟨_, y5, by simp, fun k hk => ?_, fun i hi => ?_⟩
 ·match k, hk with
  | 0, _ => simp [Array.getElem?_setIfInBounds, TC.enc]; omega
  | 1, _ => simp [Array.getElem?_setIfInBounds, TC.enc]; omega
  | 2, _ => simp [Array.getElem?_setIfInBounds, TC.enc]; omega
  | 3, _ => simp [Array.getElem?_setIfInBounds, TC.enc]; omega
  | 4, _ => simp [Array.getElem?_setIfInBounds, TC.enc]; omega
  | 5, _ => simp [Array.getElem?_setIfInBounds, TC.enc]; omega
 ·simp only [Array.getElem?_setIfInBounds]
  rw [if_neg (by omega), if_neg (by omega), if_neg (by omega), if_neg (by omega), if_neg (by omega), if_neg (by omega)]
/-- the row that is being made: so many trees are there -/
structure MdS (bm kn : Nat) (w : World) (cur : Array Value) (M : List Tr) : Prop where
 b : w.heap[bm]? = some (.cells cur 28 (0, 0))
 sz : cur.size = kn * 6
 z : ∀ i k, M.length ≤ i → i < kn → k < 6 → cur[i * 6 + k]? = tz.enc[k]?
 t : ∀ i (h : i < M.length), ∃ y : TC, (∀ k, k < 6 → cur[i * 6 + k]? = y.enc[k]?) ∧ Rt (fun b => bm < b) w y M[i]
theorem MdS.kf {bm kn : Nat} {w w' : World} {cur : Array Value} {M : List Tr} (h : MdS bm kn w cur M) (hb : w'.heap[bm]? = w.heap[bm]?) (k : Kf (fun b => bm < b) w w') : MdS bm kn w' cur M :=
 ⟨hb.trans h.b, h.sz, h.z, fun i hi => by
  obtain ⟨y, h1, h2⟩ := h.t i hi
  exact ⟨y, h1, h2.kf k⟩⟩
theorem MdS.put {bm kn : Nat} {w : World} {cur : Array Value} {M : List Tr} (h : MdS bm kn w cur M) {y : TC} {u : Tr} (hy : Rt (fun b => bm < b) w y u) (hl : M.length < kn) : ∃ cur', MdS bm kn (tSet w bm (M.length * 6) y) cur' (M ++ [u]) := by
 obtain ⟨cur', h1, h2, h3, h4⟩ := t_set h.b y (o := M.length * 6) (by rw [h.sz]; omega)
 have o := t_only w bm (M.length * 6) y
 have kf : Kf (fun b => bm < b) w (tSet w bm (M.length * 6) y) := ⟨by rw [o.size]; exact Nat.le_refl _, fun b hb _ => o.block b (by omega)⟩
 refine ⟨cur', h1, h2.trans h.sz, fun i k hi hi2 hk => ?_, fun i hi => ?_⟩
 ·rw [List.length_append, List.length_singleton] at hi
  exact (h4 _ (by omega)).trans (h.z i k (by omega) hi2 hk)
 rw [List.length_append, List.length_singleton] at hi
 by_cases e : i < M.length
 ·obtain ⟨z, k1, k2⟩ := h.t i e
  rw [List.getElem_append_left e]
  exact ⟨z, fun k hk => (h4 _ (by omega)).trans (k1 k hk), k2.kf kf⟩
 ·obtain rfl : i = M.length := by omega
  rw [List.getElem_append_right (Nat.le_refl _)]
  simp only [Nat.sub_self, List.getElem_cons_zero]
  exact ⟨y, h3, hy.kf kf⟩
theorem MdS.kl {bm kn B : Nat} {w : World} {cur : Array Value} {M : List Tr} (h : MdS bm kn w cur M) (hl : M.length = kn) (hB : B ≤ bm) : KL (fun b => B ≤ b) w ⟨some ⟨bm, 0, none⟩, kn, kn⟩ M := by
 refine ⟨hl, .inr ⟨bm, 0, rfl, hB, ⟨_, _, h.b⟩, fun i hi => ?_⟩⟩
 obtain ⟨y, h1, h2⟩ := h.t i hi
 refine ⟨y, fun k hk => ?_, h2.imp fun b hb => by omega⟩
 rw [cell_of_row w bm (0 + i * 6 + k) _ _ (0, 0) h.b, Nat.zero_add]
 exact h1 k hk
theorem Met.del {F : Nat → Prop} {w : World} {m : Nat} {E : List (Value × Value)} (h : Met F w m E) {t e : TypeId} (ht : Tryz.prog.underlying t = some (.map 89 e)) {x : Value} (hx : SpK F w x) (ty : TypeId) :
  ∃ w' E', (Builtin.delete_ #[t, 89] ty #[.map (some m), x]).run Tryz.prog w = .ok (.tuple #[]) w' ∧ DelE x E E' ∧ Met F w' m E' ∧ w.grownBy w' (some m) := by
 obtain ⟨w', E', h1, h2, h3, h4⟩ := Mp.del h (ky_span F w) ht hx ty
 exact ⟨w', E', h1, h2, h3.imp fun v hv => hv.kept fun b _ hu => h4.block b hu.lt fun e => ub_not_map h hu (Option.some.inj e), h4⟩
theorem del_sub {k : Value} {E E' : List (Value × Value)} (h : DelE k E E') (hd : E.Pairwise (fun p q => p.1 ≠ q.1)) : ∀ p ∈ E', p ∈ E ∧ p.1 ≠ k := by
 intro p hp
 rcases h with ⟨h1, rfl⟩ | ⟨E1, v0, E2, rfl, rfl⟩
 ·exact ⟨hp, h1 p hp⟩
 ·rw [List.pairwise_append, List.pairwise_cons] at hd
  rcases List.mem_append.1 hp with hp | hp
  ·exact ⟨List.mem_append_left _ hp, hd.2.2 p hp (k, v0) List.mem_cons_self⟩
  ·exact ⟨List.mem_append_right _ (List.mem_cons_of_mem _ hp), fun e => hd.2.1.1 p hp e.symm⟩
theorem put_sub {k v : Value} {E E' : List (Value × Value)} (h : PutE k v E E') : ∀ p ∈ E', p ∈ E ∨ p.1 = k := by
 intro p hp
 rcases h with ⟨-, rfl⟩ | ⟨E1, v0, E2, rfl, rfl⟩
 ·rcases List.mem_append.1 hp with hp | hp
  ·exact .inl hp
  ·exact .inr (by rw [List.mem_singleton.1 hp])
 ·rcases List.mem_append.1 hp with hp | hp
  ·exact .inl (List.mem_append_left _ hp)
  ·rcases List.mem_cons.1 hp with rfl | hp
   ·exact .inr rfl
   ·exact .inl (List.mem_append_right _ (List.mem_cons_of_mem _ hp))
theorem zero_sl (w : World) : (zeroValue 26).run Tryz.prog w = .ok (.slice none 0 0) w := by kernel_rfl
end Sx
end Go.Proofs.YtgpaajolcpgeaaaGreatDoor

namespace Go.Proofs.YtgpaajolcpgeaaaGreatDoor
open Go.RowKit
namespace Sx

set_option maxRecDepth 100000 in
set_option maxHeartbeats 6400000 in
theorem ckids_step {F : Nat → Prop} {m f g : Nat} (hT : CtP F m f g) : CkP F m f g := by
 intro w E ka kn kc L h hk hg hf hB hN hO hF
 have b0 := below_alloc w (.cells #[.map (some m)] 99)
 have y0 := cb_new w m
 have h1 := Met.below h b0
 have hk1 := KL.kf hk (Kf.of_below b0)
 have hO1 := hO.kf (Kf.of_below b0)
 have hmw : m < w.heap.size := h.lt
 have hLn : L.length = kn := hk.1
 have hkn : kn ≤ 1073741824 := by rw [← hLn]; exact Nat.le_trans (len_le_cnL hf) hN
 replace hLn := hide hLn
 have hmF : ¬ F m := fun e => absurd (hF m e) (Nat.lt_irrefl m)
 clear h hk hO
 go_enter Tryz.func96, Tryz.ntmps96
 iterate 6 (first | go_skip | go_guarded | go_step | go_upon | go_simp)
 generalize hW : w.alloc (.cells #[.map (some m)] 99) = W at *
 have hWs : W.heap.size = w.heap.size + 1 := by rw [← hW]; simp
 clear hW
 generalize hz : w.heap.size = bw at *
 replace hz := hide hz
 by_cases hk0 : kn = 0
 ·subst hk0
  have hL : L = [] := List.length_eq_zero_iff.1 hLn.out
  have hfin : Hid (CkK F m w E (L.map (cpT g)) (.returned (.slice none 0 0)) W) := hide ⟨none, 0, 0, rfl, by rw [hL]; exact ⟨rfl, .inl rfl⟩, ⟨E, h1, fun p hp => hp⟩, ⟨b0.os, b0.tape, b0.output, b0.size, fun i hi _ => b0.block i (hz.out ▸ hi)⟩⟩
  clear h1 hk1 hO1 b0 y0
  go_wp2
  refine bodyPost_ret (results_tmp rfl _ _ _) rfl ?_
  exact hfin.out
 ·have hzk : ((kn : Int) == 0) = false := by simpa using hk0
  have hax : kn = 0 ∨ ∃ b off, ka = some ⟨b, off, none⟩ := hk1.2.imp id fun ⟨b, off, e, _⟩ => ⟨b, off, e⟩
  have hsp := hide (spanOf_n W ka kn kc hax)
  rw [if_neg hk0] at hsp
  unfold spV at hsp
  replace b0 := hide b0
  replace y0 := hide y0
  replace h1 := hide h1
  replace hk1 := hide hk1
  replace hO1 := hide hO1
  clear hax
  go_wp2_with fail
  refine hsp.out.mono ?_
  rintro e w2 ⟨rfl, k2⟩
  have b3 := below_alloc w2 (.cells #[.pointer ka, .int .i64 (kn : Int)] 89)
  have n3 := heap_alloc_new w2 (.cells #[.pointer ka, .int .i64 (kn : Int)] 89)
  have k3 := grow_step b3 k2
  have h3 := Met.below h1.out k3
  have hk3 := KL.kf hk1.out (Kf.of_below k3)
  have hO3 := hO1.out.kf (Kf.of_below k3)
  have y3 := y0.out.below k3
  have hbs : bw < w2.heap.size := by have := k2.size; omega
  have hu3 : Un F (w2.alloc (.cells #[.pointer ka, .int .i64 (kn : Int)] 89)) ka := by
   obtain ⟨b, off, e, hF, hu, -⟩ := hk3.2.resolve_left hk0
   exact .inr ⟨b, off, e, hF, hu⟩
  have hno := hO3.not hk3 (Nat.lt_succ_self _)
  have hlk : (Instr.lookup 97 (.map (some m)) (.agg #[.pointer ka, .int .i64 (kn : Int)]) true).run Tryz.prog (w2.alloc (.cells #[.pointer ka, .int .i64 (kn : Int)] 89)) = .ok (.tuple #[.slice none 0 0, .bool false]) (w2.alloc (.cells #[.pointer ka, .int .i64 (kn : Int)] 89)) := by
   rcases Mp.get h3 (ky_span F _) Tryz.underlying97 (zero_sl _) (x := spV ka kn) ⟨_, _, rfl, hu3⟩ true with ⟨-, h⟩ | ⟨v, h, -⟩
   ·exact h
   ·exact absurd rfl (hno _ h)
  obtain ⟨cs, hcs, hcz, hmk⟩ := run_mkT kn hkn (w2.alloc (.cells #[.pointer ka, .int .i64 (kn : Int)] 89))
  have c0 := y3.c0
  have d0 := cell_of_row _ w2.heap.size 0 _ _ (0, 0) n3
  have d1 := cell_of_row _ w2.heap.size 1 _ _ (0, 0) n3
  go_upto_region 8 with (fail)
  have s3 : (w2.alloc (.cells #[.pointer ka, .int .i64 (kn : Int)] 89)).heap.size = w2.heap.size + 1 := by simp
  have gw3 : w.grownBy (w2.alloc (.cells #[.pointer ka, .int .i64 (kn : Int)] 89)) (some m) := gbb (w1 := W) ⟨b0.out.os, b0.out.tape, b0.out.output, b0.out.size, fun i hi _ => b0.out.block i (hz.out ▸ hi)⟩ (gb_of k3)
  clear hsp k2 b3 k3 h1 hk1 hO1 y0 b0 hlk hmk c0 d0 d1
  generalize w2.alloc (.cells #[.pointer ka, .int .i64 (kn : Int)] 89) = W3 at *
  generalize w2.heap.size = bs at *
  have b4 := below_alloc W3 (.cells cs 28)
  have n4 := heap_alloc_new W3 (.cells cs 28)
  rw [s3] at n4
  have h4 := Met.below h3 b4
  have hk4 := KL.kf hk3 (Kf.of_below b4)
  have hO4 := hO3.kf (Kf.of_below b4)
  have y4 := y3.below b4
  have n5 := (b4.block bs (by omega)).trans n3
  have hu4 : SpK F (W3.alloc (.cells cs 28)) (spV ka kn) := ⟨_, _, rfl, hu3.kept fun b _ hu => b4.block b hu.lt⟩
  obtain ⟨w5, E5, hrun, hput, hm5, g5⟩ := Met.put h4 Tryz.underlying97 hu4 (.slice (some ⟨bs + 1, 0, none⟩) kn kn)
  unfold spV at hrun
  have c0 := y4.c0
  have d0 := cell_of_row _ bs 0 _ _ (0, 0) n5
  have d1 := cell_of_row _ bs 1 _ _ (0, 0) n5
  have gw5 := hide (gbb (gbb gw3 (gb_of b4)) g5)
  have hk5 := hide (KL.kf hk4 (Kf.of_grown g5 hmF))
  have hO5 := hide (hO4.kf (Kf.of_grown g5 hmF))
  have y5 := hide (y4.grown g5 (by omega))
  have n6 := hide ((g5.block bs (lt_of_block n5) fun e => by have := Option.some.inj e; omega).trans n5)
  have md5 : Hid (MdS (bs + 1) kn w5 cs []) := hide ⟨(g5.block (bs + 1) (lt_of_block n4) fun e => by have := Option.some.inj e; omega).trans n4, hcs, fun i k _ h1 h2 => hcz i k h1 h2, fun i hi => absurd hi (by simp)⟩
  have hE5 := hide (put_sub hput)
  replace hm5 := hide hm5
  clear b4 n4 h4 hk4 hO4 y4 n5 hu4 hput g5 h3 hk3 hO3 y3 n3 hu3 hno gw3 hcs hcz
  go_wp2_with fail
  clear hrun c0 d0 d1
  go_loopw [34] (fun i wr => ∃ (j : Nat) (cur : Array Value) (E' : List (Value × Value)), j ≤ kn ∧ i = .int .i64 j ∧ Hid (MdS (bs + 1) kn wr cur ((L.take j).map (cpT g))) ∧ Hid (Met F wr m E') ∧ Hid (∀ p ∈ E', p ∈ E ∨ p.1 = spV ka kn) ∧ Hid (w.grownBy wr (some m)) ∧ Hid (KL F wr ⟨ka, kn, kc⟩ L) ∧ Hid (OpC F wr f (cnL f L + 1) E) ∧ Hid (CB wr bw m) ∧ Hid (wr.heap[bs]? = some (.cells #[.pointer ka, .int .i64 (kn : Int)] 89 (0, 0)))) (fun i _ => kn - (intOf i).toNat)
  case atStart => exact ⟨0, cs, E5, Nat.zero_le _, rfl, md5, hm5, hE5, gw5, hk5, hO5, y5, n6⟩
  case round =>
   clear md5 hm5 hE5 gw5 hk5 hO5 y5 n6
   obtain ⟨j, cur, E', hj, rfl, md, hmt, hE, gw, hkl, hO, y, ns⟩ := hrel
   by_cases hjn : j < kn
   ·have hlt : decide ((j : Int) < (kn : Int)) = true := by
     rw [decide_eq_true_eq]
     omega
    have hi2 : (j : Int) < (kn : Int) := by omega
    have hjL : j < L.length := by rw [hLn.out]; exact hjn
    obtain ⟨u, hu⟩ : ∃ u, L[j] = u := ⟨_, rfl⟩
    have hmem : u ∈ L := hu ▸ List.getElem_mem hjL
    have htk : L.take (j + 1) = L.take j ++ [u] := by rw [List.take_succ_eq_append_getElem hjL, hu]
    obtain ⟨ba, offa, rfl, hFa, hUa, hca⟩ := hkl.out.2.resolve_left (show ¬ kn = 0 by omega)
    obtain ⟨x, hcx, hx⟩ := hca j hjL
    rw [hu] at hx
    have e0 : wr.cell? ⟨ba, offa + j * 6, none⟩ = some (.int .i64 x.k) := hcx 0 (by decide)
    have e1 : wr.cell? ⟨ba, offa + j * 6 + 1, none⟩ = some (.string x.nm) := hcx 1 (by decide)
    have e2 : wr.cell? ⟨ba, offa + j * 6 + 2, none⟩ = some (.slice x.na x.nn x.nc) := hcx 2 (by decide)
    have e3 : wr.cell? ⟨ba, offa + j * 6 + 3, none⟩ = some (.bool x.s) := hcx 3 (by decide)
    have e4 : wr.cell? ⟨ba, offa + j * 6 + 4, none⟩ = some (.slice x.a x.l x.c) := hcx 4 (by decide)
    have e5 : wr.cell? ⟨ba, offa + j * 6 + 5, none⟩ = some (.slice x.ka x.kn x.kc) := hcx 5 (by decide)
    have b6 := below_alloc wr (.cells #[.int .i64 x.k, .string x.nm, .slice x.na x.nn x.nc, .bool x.s, .slice x.a x.l x.c, .slice x.ka x.kn x.kc] 28)
    have z6 := vb_new wr x
    have hbm : bs + 1 < wr.heap.size := lt_of_block md.out.b
    have md6 := hide (md.out.kf (b6.block (bs + 1) hbm) (Kf.of_below b6))
    have hm6 := Met.below hmt.out b6
    have gw6 := hide (gbb gw.out (gb_of b6))
    have hkl6 := hide (KL.kf hkl.out (Kf.of_below b6))
    have hO6 := hide (hO.out.kf (Kf.of_below b6))
    have y6 := y.out.below b6
    have ns6 := hide ((b6.block bs (lt_of_block ns.out)).trans ns.out)
    have hx6 := rt_below hx b6
    have hcu : cntF f u ≤ cnL f L := by
     have h1 := cnL_append f (L.take (j + 1)) (L.drop (j + 1))
     rw [List.take_append_drop, htk, cnL_append, cnL_one] at h1
     omega
    have hOu : OpC F (wr.alloc (.cells #[.int .i64 x.k, .string x.nm, .slice x.na x.nn x.nc, .bool x.s, .slice x.a x.l x.c, .slice x.ka x.kn x.kc] 28)) f (cntF f u) E' := fun p hp => by
     rcases hE.out p hp with h | h
     ·obtain ⟨sl, M, h1, h2, h3⟩ := hO6.out p h
      exact ⟨sl, M, h1, h2, by omega⟩
     ·exact ⟨⟨some ⟨ba, offa, none⟩, kn, kc⟩, L, h, hkl6.out, hcu⟩
    have htc := hide (hT hm6 hx6 (hg u hmem) (hf u hmem) (hB u hmem) (by omega) hOu hF)
    have hwj : IntKind.i64.wrap ((j : Int) + 1) = ((j + 1 : Nat) : Int) := by
     rw [IntKind.wrap_i64]
     omega
    clear hcx hca hFa hUa hx md hmt gw hkl hO ns hm6 hx6 hOu
    go_upto_region 12 with (fail)
    clear e0 e1 e2 e3 e4 e5
    generalize wr.alloc (.cells #[.int .i64 x.k, .string x.nm, .slice x.na x.nn x.nc, .bool x.s, .slice x.a x.l x.c, .slice x.ka x.kn x.kc] 28) = w6 at *
    generalize wr.heap.size = bv at *
    have q0 := z6.c0
    have q1 := z6.c1
    have q2 := z6.c2
    have q3 := z6.c3
    have q4 := z6.c4
    have q5 := z6.c5
    have c0 := y6.c0
    replace y6 := hide y6
    replace hcu := hide hcu
    have hbv : bv < w6.heap.size := z6.lt
    clear b6 z6 y hu
    go_wp2_with fail
    refine htc.out.mono ?_
    rintro e w7 ⟨Y, rfl, hY, ⟨E7, hm7, hE7⟩, g7⟩
    have md7 := md6.out.kf (g7.block (bs + 1) (lt_of_block md6.out.b) fun e => by have := Option.some.inj e; omega) (Kf.of_grown g7 (by omega))
    have hM : ((L.take j).map (cpT g)).length = j := by rw [List.length_map, List.length_take]; omega
    obtain ⟨cur', md8⟩ := md7.put (hY.imp fun b (hb : w6.heap.size ≤ b) => show bs + 1 < b by omega) (by omega)
    have ho := t_only w7 (bs + 1) (j * 6) Y
    rw [hM, show (L.take j).map (cpT g) ++ [cpT g u] = (L.take (j + 1)).map (cpT g) by rw [htk, List.map_append]; rfl] at md8
    have hmx : m < bs + 1 := by omega
    have hm8 := hide (Met.kf hm7 (ho.block m (by omega)) (⟨by rw [ho.size]; exact Nat.le_refl _, fun b hb _ => ho.block b (by have := hF b hb; omega)⟩ : Kf F w7 _))
    have hE8 : Hid (∀ p ∈ E7, p ∈ E ∨ p.1 = spV (some ⟨ba, offa, none⟩) kn) := hide fun p hp => hE.out p (hE7 p hp)
    have gw8 := hide (gb_only (gbb gw6.out g7) ho (by rw [hz.out]; omega))
    have kF : Kf F w6 (tSet w7 (bs + 1) (j * 6) Y) := (Kf.of_grown g7 hmF).trans ⟨by rw [ho.size]; exact Nat.le_refl _, fun b hb _ => ho.block b (by have := hF b hb; omega)⟩
    have hkl8 := hide (KL.kf hkl6.out kF)
    have hO8 := hide (hO6.out.kf kF)
    have y8 : Hid (CB (tSet w7 (bs + 1) (j * 6) Y) bw m) := hide ((ho.block bw (by omega)).trans (y6.out.grown g7 (by omega)))
    have ns8 := hide ((ho.block bs (by omega)).trans ((g7.block bs (lt_of_block ns6.out) fun e => by have := Option.some.inj e; omega).trans ns6.out))
    have hcel : ∀ k, k < 6 → w7.cell? ⟨bs + 1, j * 6 + k, none⟩ = tz.enc[k]? := fun k hk => by
     rw [cell_of_row w7 (bs + 1) (j * 6 + k) _ _ (0, 0) md7.b]
     exact md7.z j k (by omega) hjn hk
    have r0 : w7.cell? ⟨bs + 1, j * 6, none⟩ = some (.int .i64 0) := hcel 0 (by decide)
    have r1 : w7.cell? ⟨bs + 1, j * 6 + 1, none⟩ = some (.string ⟨#[]⟩) := hcel 1 (by decide)
    have r2 : w7.cell? ⟨bs + 1, j * 6 + 2, none⟩ = some (.slice none 0 0) := hcel 2 (by decide)
    have r3 : w7.cell? ⟨bs + 1, j * 6 + 3, none⟩ = some (.bool false) := hcel 3 (by decide)
    have r4 : w7.cell? ⟨bs + 1, j * 6 + 4, none⟩ = some (.slice none 0 0) := hcel 4 (by decide)
    have r5 : w7.cell? ⟨bs + 1, j * 6 + 5, none⟩ = some (.slice none 0 0) := hcel 5 (by decide)
    have f0 := frozen_of_row w7 (bs + 1) (j * 6) _ _ md7.b
    have f1 := frozen_of_row w7 (bs + 1) (j * 6 + 1) _ _ md7.b
    have f2 := frozen_of_row w7 (bs + 1) (j * 6 + 2) _ _ md7.b
    have f3 := frozen_of_row w7 (bs + 1) (j * 6 + 3) _ _ md7.b
    have f4 := frozen_of_row w7 (bs + 1) (j * 6 + 4) _ _ md7.b
    have f5 := frozen_of_row w7 (bs + 1) (j * 6 + 5) _ _ md7.b
    replace md8 := hide md8
    clear htc q0 q1 q2 q3 q4 q5 c0 hY hm7 hE7 g7 md7 hM hcel kF ho md6 gw6 hkl6 hO6 y6 ns6 hE
    go_wp2
    go_roundw
    case measure => simp [intOf]; omega
    case rel => exact ⟨j + 1, cur', E7, by omega, rfl, md8, hm8, hE8, gw8, hkl8, hO8, y8, ns8⟩
   ·obtain rfl : j = kn := by omega
    have hlt : decide ((j : Int) < (j : Int)) = false := by simp
    rw [show L.take j = L by rw [← hLn.out]; exact List.take_length] at md
    have hus : SpK F wr (spV ka j) := ⟨_, _, rfl, by
     obtain ⟨b, off, e, hF, hu, -⟩ := hkl.out.2.resolve_left hk0
     exact .inr ⟨b, off, e, hF, hu⟩⟩
    obtain ⟨w9, E9, hrun, hdl, hm9, g9⟩ := Met.del hmt.out Tryz.underlying97 hus 0
    unfold spV at hrun
    have md9 := md.out.kf (g9.block (bs + 1) (lt_of_block md.out.b) fun e => by have := Option.some.inj e; omega) (Kf.of_grown g9 (by omega))
    have hfin : Hid (CkK F m w E (L.map (cpT g)) (.returned (.slice (some ⟨bs + 1, 0, none⟩) j j)) w9) := hide ⟨_, _, _, rfl, md9.kl (by rw [List.length_map]; exact hLn.out) (by rw [hz.out]; omega), ⟨E9, hm9, fun p hp => by
     obtain ⟨h1, h2⟩ := del_sub hdl hmt.out.d p hp
     exact (hE.out p h1).resolve_right h2⟩, gbb gw.out g9⟩
    have c0 := y.out.c0
    have d0 := cell_of_row _ bs 0 _ _ (0, 0) ns.out
    have d1 := cell_of_row _ bs 1 _ _ (0, 0) ns.out
    clear md hmt hE gw hkl hO y ns md9 hm9 g9 hdl hus
    go_wp2
    refine bodyPost_ret (results_tmp rfl _ _ _) rfl ?_
    exact hfin.out
theorem ctree_n (F : Nat → Prop) (m f : Nat) (g : Nat) : CtP F m f g := by
 induction g with
 | zero =>
  intro w E x t h hx hg
  exact absurd ⟨t, rfl⟩ hg
 | succ g ih => exact ctree_step (ckids_step ih)
/-- what Copy answers: the same tree in new memory -/
def CpR (w : World) (t : Tr) (en : Ending) (w' : World) : Prop := ∃ y : TC, en = .returned y.val ∧ Rt (fun b => w.heap.size ≤ b) w' y t ∧ Below w.heap.size w w'
theorem mk_mc (w : World) : (Instr.makeMap 97 none).run Tryz.prog w = .ok (.map (some w.heap.size)) (w.alloc (.map #[] 0)) := by simp [Instr.makeMap]
set_option maxRecDepth 100000 in
set_option maxHeartbeats 6400000 in
theorem copy_n {w : World} {x : TC} {t : Tr} {f : Nat} (hx : Rt An w x t) (hf : ¬ Dp f t) (hN : cntF f t ≤ 1073741824) (hB : Al Bd4 t) :
  Calls Tryz.prog 27 #[x.val] w fun en w' => CpR w (cpT f t) en w' := by
 replace hx : Rt (fun b => b < w.heap.size) w x t := (rt_in hx).imp fun b hb => hb.2
 have b0 := below_alloc w (.cells #[.int .i64 x.k, .string x.nm, .slice x.na x.nn x.nc, .bool x.s, .slice x.a x.l x.c, .slice x.ka x.kn x.kc] 28)
 have b1 := below_alloc (w.alloc (.cells #[.int .i64 x.k, .string x.nm, .slice x.na x.nn x.nc, .bool x.s, .slice x.a x.l x.c, .slice x.ka x.kn x.kc] 28)) (.cells #[.int .i64 0, .string ⟨#[]⟩, .slice none 0 0, .bool false, .slice none 0 0, .slice none 0 0] 28)
 have y0 := (vb_new w x).below b1
 have y1 := vb_zero (w.alloc (.cells #[.int .i64 x.k, .string x.nm, .slice x.na x.nn x.nc, .bool x.s, .slice x.a x.l x.c, .slice x.ka x.kn x.kc] 28))
 rw [show (w.alloc (.cells #[.int .i64 x.k, .string x.nm, .slice x.na x.nn x.nc, .bool x.s, .slice x.a x.l x.c, .slice x.ka x.kn x.kc] 28)).heap.size = w.heap.size + 1 by simp] at y1
 have s1 : ((w.alloc (.cells #[.int .i64 x.k, .string x.nm, .slice x.na x.nn x.nc, .bool x.s, .slice x.a x.l x.c, .slice x.ka x.kn x.kc] 28)).alloc (.cells #[.int .i64 0, .string ⟨#[]⟩, .slice none 0 0, .bool false, .slice none 0 0, .slice none 0 0] 28)).heap.size = w.heap.size + 2 := by simp
 have kk := grow_step b1 b0
 have hx1 := rt_below hx kk
 clear hx b0 b1
 go_enter Tryz.func27, Tryz.ntmps27
 iterate 8 (first | go_skip | go_guarded | go_step | go_upon | go_simp)
 generalize (w.alloc (.cells #[.int .i64 x.k, .string x.nm, .slice x.na x.nn x.nc, .bool x.s, .slice x.a x.l x.c, .slice x.ka x.kn x.kc] 28)).alloc (.cells #[.int .i64 0, .string ⟨#[]⟩, .slice none 0 0, .bool false, .slice none 0 0, .slice none 0 0] 28) = W at *
 generalize hz : w.heap.size = bt at *
 replace hz := hide hz
 have hmk := mk_mc W
 rw [s1] at hmk
 have b2 := below_alloc W (.map #[] 0)
 have n2 := heap_alloc_new W (.map #[] 0)
 rw [s1] at n2
 have s2 : (W.alloc (.map #[] 0)).heap.size = bt + 3 := by simp [s1]
 have b3 := below_alloc (W.alloc (.map #[] 0)) (.cells #[.map (some (bt + 2))] 99)
 have y3 := cb_new (W.alloc (.map #[] 0)) (bt + 2)
 rw [s2] at y3
 have k3 := grow_step b3 b2
 have m3 := (b3.block (bt + 2) (by omega)).trans n2
 have hx3 := rt_below hx1 k3
 have z0 := y0.below k3
 have z1 := y1.below k3
 have kw := hide (kk.trans (k3.mono (by omega)))
 have ht := hide (ctree_n (fun b => b < bt) (bt + 2) f f (E := []) ⟨⟨#[], 0, m3, rfl⟩, by simp, List.Pairwise.nil⟩ hx3 hf hf hB hN (fun p hp => absurd hp (by simp)) (fun b hb => by omega))
 have s3 : ((W.alloc (.map #[] 0)).alloc (.cells #[.map (some (bt + 2))] 99)).heap.size = bt + 4 := by simp [s1]
 clear b2 n2 b3 k3 m3 hx3 hx1 y0 y1 kk
 go_upto_region 2 with (fail)
 generalize (W.alloc (.map #[] 0)).alloc (.cells #[.map (some (bt + 2))] 99) = W3 at *
 have c0 := y3.c0
 have q0 := z0.c0
 have q1 := z0.c1
 have q2 := z0.c2
 have q3 := z0.c3
 have q4 := z0.c4
 have q5 := z0.c5
 replace z1 := hide z1
 clear z0 y3 hmk
 go_wp2_with fail
 refine ht.out.mono ?_
 rintro en w4 ⟨Y, rfl, hY, -, g4⟩
 have z4 := z1.out.grown g4 (by omega)
 have ho := v_only w4 (bt + 1) Y
 have hfin := hide (vb_set z4 Y)
 have hres : Hid (CpR w (cpT f t) (.returned Y.val) (vSet w4 (bt + 1) Y)) := hide ⟨Y, rfl, (rt_only3 (F := fun b => bt + 4 ≤ b) (hY.imp fun b (hb : W3.heap.size ≤ b) => by omega) (fun b hb => by omega) ho).imp fun b (hb : bt + 4 ≤ b) => by rw [hz.out]; omega, by
  rw [hz.out]
  refine below_only ⟨g4.os.trans kw.out.os, g4.tape.trans kw.out.tape, g4.output.trans kw.out.output, Nat.le_trans kw.out.size g4.size, fun i hi => (g4.block i (by omega) fun e => by have := Option.some.inj e; omega).trans (kw.out.block i hi)⟩ ho (by omega)⟩
 have r0 := z4.c0
 have r1 := z4.c1
 have r2 := z4.c2
 have r3 := z4.c3
 have r4 := z4.c4
 have r5 := z4.c5
 have f0 := z4.f 0
 have f1 := z4.f 1
 have f2 := z4.f 2
 have f3 := z4.f 3
 have f4 := z4.f 4
 have f5 := z4.f 5
 clear ht hY g4 z4 ho kw c0 q0 q1 q2 q3 q4 q5 z1
 go_wp2
 refine bodyPost_ret (results_cell_row rfl _ _ (bt + 1) 28 _ (0, 0) _ rfl hfin.out Tryz.underlying28 rfl (by kernel_rfl)) rfl ?_
 exact hres.out
end Sx
end Go.Proofs.YtgpaajolcpgeaaaGreatDoor

namespace Go.Proofs.YtgpaajolcpgeaaaGreatDoor
open Go.RowKit
namespace Sx

/-- what may stand behind a word's end: what stood there, or, at the text's end, a byte that ends a word -/
def Nxt (s0 S : ByteArray) (a a' n : Nat) : Prop := (a + n < s0.size ∧ bt S (a' + n) = bt s0 (a + n)) ∨ (a + n = s0.size ∧ inRow (bt S (a' + n)) = false ∧ bt S (a' + n) ≠ 61)
theorem sgOf_shift {u0 u : ByteArray} (h0 : 0 < (sgOf u0).size) (hn : (sgOf u0).size < u.size) (hb : ∀ i, i < (sgOf u0).size → bt u i = bt u0 i) (hc : (∀ i, i < u0.size → i ≤ (sgOf u0).size → bt u i = bt u0 i) ∧ (u0.size ≤ (sgOf u0).size → bt u (sgOf u0).size ≠ 61)) : (sgOf u).size = (sgOf u0).size := by
 have hle := sgOf_le u0
 have hp0 : 0 < u0.size := by omega
 have e0 := sgOf_size hp0
 have e := sgOf_size (s := u) (by omega)
 have hb0 := hb 0 h0
 change _ = if twoB u0 = true then 2 else _ at e0
 change _ = if twoB u = true then 2 else _ at e
 by_cases ht : twoB u0 = true
 ·rw [if_pos ht] at e0
  rw [e0] at hn hb hc
  have h2 := twoB_iff.1 ht
  have h1 := hb 1 (by omega)
  rw [e, e0, if_pos (twoB_iff.2 ⟨by omega, by rw [hb0]; exact h2.2.1, by rw [h1]; exact h2.2.2⟩)]
 ·rw [if_neg ht] at e0
  have hs1 : sg1 (bt u0 0) = true := by
   by_cases hq : sg1 (bt u0 0) = true
   ·exact hq
   ·rw [if_neg hq] at e0; omega
  rw [if_pos hs1] at e0
  rw [e0] at hc
  have hnt : ¬ twoB u = true := fun h => by
   have h3 := twoB_iff.1 h
   by_cases hz : 1 < u0.size
   ·have h1 := hc.1 1 hz (by omega)
    exact ht (twoB_iff.2 ⟨by omega, by rw [← hb0]; exact h3.2.1, by rw [← h1]; exact h3.2.2⟩)
   ·exact hc.2 (by omega) h3.2.2
  rw [e, e0, if_neg hnt, hb0, if_pos hs1]
theorem wd_shift {s0 S : ByteArray} {a a' : Nat} {t : TD} (h : Wd s0 a t) (ha : a < s0.size) (hsz : a' + t.text.size < S.size) (hb : ∀ i, i < t.text.size → bt S (a' + i) = bt s0 (a + i)) (hc : Nxt s0 S a a' t.text.size) :
  Wd S a' ⟨t.kind, t.text, t.num, a'⟩ := by
 have hpos := wd_size h ha
 obtain ⟨h1, h2, h3, h4⟩ := h
 have hbt : ∀ i, i < t.text.size → bt t.text i = bt s0 (a + i) := by
  intro i hi
  have := bt_mid' (s := s0) h2 hi
  rwa [← h3] at this
 have hz : (S.extract a' (a' + t.text.size)).size = t.text.size := size_mid (by omega)
 have htx : t.text = S.extract a' (a' + t.text.size) := by
  refine ba_ext hz.symm fun i hi => ?_
  rw [bt_mid' (by omega) hi, hb i hi, hbt i hi]
 have h0 : bt S a' = bt s0 a := by
  have := hb 0 hpos
  rwa [Nat.add_zero, Nat.add_zero] at this
 have hrow : RowAt s0 a t.text.size → RowAt S a' t.text.size := by
  intro hr
  refine ⟨by omega, fun j hj => ?_, fun _ => ?_⟩
  ·rw [hb j hj]; exact hr.2.1 j hj
  ·rcases hc with ⟨c1, c2⟩ | ⟨-, c2, -⟩
   ·rw [c2]; exact hr.2.2 c1
   ·exact c2
 refine ⟨rfl, by show a' + t.text.size ≤ S.size; omega, htx, ?_⟩
 rw [h0]
 rcases h4 with ⟨c1, r1, o1, k1, n1⟩ | ⟨c1, r1, k1, o1, n1⟩ | ⟨c1, d1, x1, o1, k1, n1⟩
 ·exact .inl ⟨c1, hrow r1, o1, k1, n1⟩
 ·exact .inr (.inl ⟨c1, hrow r1, k1, o1, n1⟩)
 ·refine .inr (.inr ⟨c1, d1, ?_, o1, k1, n1⟩)
  show t.text = sgOf (S.extract a' S.size)
  have hl : (sgOf (s0.extract a s0.size)).size = t.text.size := by rw [← x1]
  have hus : (S.extract a' S.size).size = S.size - a' := size_suffix
  have hus0 : (s0.extract a s0.size).size = s0.size - a := size_suffix
  have hm : (sgOf (S.extract a' S.size)).size = t.text.size := by
   rw [← hl]
   refine sgOf_shift (by omega) (by omega) (fun i hi => ?_) ⟨fun i hi hi2 => ?_, fun hi => ?_⟩
   ·rw [bt_suffix (by omega), bt_suffix (by omega), hb i (by omega)]
   ·rw [bt_suffix (by omega), bt_suffix (by omega)]
    by_cases he : i < t.text.size
    ·exact hb i he
    ·obtain rfl : i = t.text.size := by omega
     rcases hc with ⟨-, c2⟩ | ⟨c3, -, -⟩
     ·exact c2
     ·omega
   ·rw [hl, bt_suffix (by omega)]
    rcases hc with ⟨c3, -⟩ | ⟨-, -, c4⟩
    ·omega
    ·exact c4
  have he := sgOf_eq (s := S.extract a' S.size) (by omega)
  rw [hm, extract_suffix (by omega)] at he
  rw [he]; exact htx
end Sx
end Go.Proofs.YtgpaajolcpgeaaaGreatDoor

namespace Go.Proofs.YtgpaajolcpgeaaaGreatDoor
open Go.RowKit
namespace Sx

end Sx
end Go.Proofs.YtgpaajolcpgeaaaGreatDoor

namespace Go.Proofs.YtgpaajolcpgeaaaGreatDoor
open Go.RowKit
namespace Sx

/-- by the rule tag, having read acc, of ts the tree t is read, and r is left -/
def Rds (e tag : Nat) (acc : List Tr) (ts : List TD) (t : Tr) (r : List TD) : Prop := ∃ n, Gr e n tag acc ts = some (.inr (t, r))
variable {e : Nat} {acc : List Tr} {ts r q : List TD} {t u v : Tr}
theorem rds_0 (h1 : Rds e 2 [] ts t r) (h2 : Rds e 1 [t] r u q) : Rds e 0 [] ts u q := by
 obtain ⟨n, h1⟩ := h1
 obtain ⟨m, h2⟩ := h2
 refine ⟨max n m + 1, ?_⟩
 simp only [Gr]
 rw [gr_up (Nat.le_max_left n m) h1]
 exact gr_up (Nat.le_max_right _ _) h2
theorem rds_3 (h1 : Rds e 5 [] ts t r) (h2 : Rds e 4 [t] r u q) : Rds e 3 [] ts u q := by
 obtain ⟨n, h1⟩ := h1
 obtain ⟨m, h2⟩ := h2
 refine ⟨max n m + 1, ?_⟩
 simp only [Gr]
 rw [gr_up (Nat.le_max_left n m) h1]
 exact gr_up (Nat.le_max_right _ _) h2
theorem rds_5 (h1 : Rds e 7 [] ts t r) (h2 : Rds e 6 [t] r u q) : Rds e 5 [] ts u q := by
 obtain ⟨n, h1⟩ := h1
 obtain ⟨m, h2⟩ := h2
 refine ⟨max n m + 1, ?_⟩
 simp only [Gr]
 rw [gr_up (Nat.le_max_left n m) h1]
 exact gr_up (Nat.le_max_right _ _) h2
theorem rds_9 (h1 : Rds e 11 [] ts t r) (h2 : Rds e 10 [t] r u q) : Rds e 9 [] ts u q := by
 obtain ⟨n, h1⟩ := h1
 obtain ⟨m, h2⟩ := h2
 refine ⟨max n m + 1, ?_⟩
 simp only [Gr]
 rw [gr_up (Nat.le_max_left n m) h1]
 exact gr_up (Nat.le_max_right _ _) h2
/-- the loops: a word more -/
theorem rds_1w (h : hd ts = wd 20) (h1 : Rds e 2 [] ts.tail u r) (h2 : Rds e 1 [nd (lk 20) (acc ++ [u])] r v q) : Rds e 1 acc ts v q := by
 obtain ⟨n, h1⟩ := h1
 obtain ⟨m, h2⟩ := h2
 refine ⟨max n m + 1, ?_⟩
 simp only [Gr]
 rw [if_pos h, gr_up (Nat.le_max_left n m) h1]
 exact gr_up (Nat.le_max_right _ _) h2
theorem rds_4w (h : hd ts = wd 18) (h1 : Rds e 5 [] ts.tail u r) (h2 : Rds e 4 (acc ++ [u]) r v q) : Rds e 4 acc ts v q := by
 obtain ⟨n, h1⟩ := h1
 obtain ⟨m, h2⟩ := h2
 refine ⟨max n m + 1, ?_⟩
 simp only [Gr]
 rw [if_pos h, gr_up (Nat.le_max_left n m) h1]
 exact gr_up (Nat.le_max_right _ _) h2
theorem rds_6w (h : hd ts = wd 17) (h1 : Rds e 7 [] ts.tail u r) (h2 : Rds e 6 (acc ++ [u]) r v q) : Rds e 6 acc ts v q := by
 obtain ⟨n, h1⟩ := h1
 obtain ⟨m, h2⟩ := h2
 refine ⟨max n m + 1, ?_⟩
 simp only [Gr]
 rw [if_pos h, gr_up (Nat.le_max_left n m) h1]
 exact gr_up (Nat.le_max_right _ _) h2
theorem rds_10w (h : amo 4 2 (hd ts) ≠ 0) (h1 : Rds e 11 [] ts.tail u r) (h2 : Rds e 10 [nd (lk (amo 4 2 (hd ts))) (acc ++ [u])] r v q) : Rds e 10 acc ts v q := by
 obtain ⟨n, h1⟩ := h1
 obtain ⟨m, h2⟩ := h2
 refine ⟨max n m + 1, ?_⟩
 simp only [Gr]
 rw [if_pos h, gr_up (Nat.le_max_left n m) h1]
 exact gr_up (Nat.le_max_right _ _) h2
/-- .. no word more -/
theorem rds_1e (h : hd ts ≠ wd 20) : Rds e 1 acc ts (row 20 acc) ts := ⟨1, by simp only [Gr]; rw [if_neg h]⟩
theorem rds_4e (h : hd ts ≠ wd 18) : Rds e 4 acc ts (row 18 acc) ts := ⟨1, by simp only [Gr]; rw [if_neg h]⟩
theorem rds_6e (h : hd ts ≠ wd 17) : Rds e 6 acc ts (row 17 acc) ts := ⟨1, by simp only [Gr]; rw [if_neg h]⟩
theorem rds_10e (h : amo 4 2 (hd ts) = 0) : Rds e 10 acc ts (row 4 acc) ts := ⟨1, by simp only [Gr]; rw [if_neg (fun h2 => h2 h)]⟩
theorem rds_2 (h1 : Rds e 3 [] ts t r) (h : hd r ≠ wd 19) : Rds e 2 [] ts t r := by
 obtain ⟨n, h1⟩ := h1
 refine ⟨n + 1, ?_⟩
 simp only [Gr]
 rw [h1]
 exact if_neg h
theorem rds_2w (h1 : Rds e 3 [] ts t r) (h : hd r = wd 19) (h2 : Rds e 2 [] r.tail u q) : Rds e 2 [] ts (nd (lk 19) [t, u]) q := by
 obtain ⟨n, h1⟩ := h1
 obtain ⟨m, h2⟩ := h2
 refine ⟨max n m + 1, ?_⟩
 simp only [Gr]
 rw [gr_up (Nat.le_max_left n m) h1]
 show (if hd r = wd 19 then th (Gr e (max n m) 2 [] r.tail) fun u q => some (.inr (nd (lk 19) [t, u], q)) else some (.inr (t, r))) = _
 rw [if_pos h, gr_up (Nat.le_max_right n m) h2]
 rfl
theorem rds_7n (h : hd ts = wd 16) (h1 : Rds e 7 [] ts.tail t r) : Rds e 7 [] ts (nd (lk 16) [t]) r := by
 obtain ⟨n, h1⟩ := h1
 refine ⟨n + 1, ?_⟩
 simp only [Gr]
 rw [if_pos h, h1]
 rfl
theorem rds_7q (h0 : hd ts ≠ wd 16) (h : amo 21 2 (hd ts) ≠ 0) (hn : (nms ts.tail).1 ≠ []) (hdt : hd (nms ts.tail).2 = dot) (h1 : Rds e 0 [] (nms ts.tail).2.tail t r) : Rds e 7 [] ts (nd ⟨amo 21 2 (hd ts), ⟨#[]⟩, (nms ts.tail).1, false, []⟩ [t]) r := by
 obtain ⟨n, h1⟩ := h1
 refine ⟨n + 1, ?_⟩
 simp only [Gr]
 rw [if_neg h0, if_pos h, if_neg (fun h => h.elim hn fun h => h hdt), h1]
 rfl
theorem rds_7 (h0 : hd ts ≠ wd 16) (h : amo 21 2 (hd ts) = 0) (h1 : Rds e 8 [] ts t r) : Rds e 7 [] ts t r := by
 obtain ⟨n, h1⟩ := h1
 refine ⟨n + 1, ?_⟩
 simp only [Gr]
 rw [if_neg h0, if_neg (fun h2 => h2 h)]
 exact h1
theorem rds_8t (h : amo 7 2 (hd ts) ≠ 0) : Rds e 8 [] ts (nd (lk (amo 7 2 (hd ts))) []) ts.tail := ⟨1, by cases ts <;> (simp only [Gr]; rw [if_pos h])⟩
theorem rds_8p (h0 : amo 7 2 (hd ts) = 0) (h : hd ts = opn) (h1 : Rds e 0 [] ts.tail t r) (hr : hd r = cls') : Rds e 8 [] ts t r.tail := by
 obtain ⟨n, h1⟩ := h1
 refine ⟨n + 1, ?_⟩
 cases ts with
 | nil =>
  simp only [Gr]
  rw [if_neg (fun h2 => h2 h0), if_pos h, h1]
  exact if_pos hr
 | cons a ts =>
  simp only [Gr]
  rw [if_neg (fun h2 => h2 h0), if_pos h, h1]
  exact if_pos hr
theorem rds_8d {k : TD} (h0 : amo 7 2 k.text = 0) (hp : k.text ≠ opn) (hk1 : k.kind = 1) (hd2 : hd ts = wd 15) (hz : k.num ≠ 0) (h1 : Rds e 9 [] ts.tail t r) : Rds e 8 [] (k :: ts) (nd ⟨15, ⟨#[]⟩, [], false, cl k.num⟩ [t]) r := by
 obtain ⟨n, h1⟩ := h1
 refine ⟨n + 1, ?_⟩
 simp only [Gr]
 rw [if_neg (fun h2 => h2 h0), if_neg (show ¬ hd (k :: ts) = opn from hp), if_pos (show hk (k :: ts) = 1 ∧ hd (k :: ts).tail = wd 15 from ⟨hk1, hd2⟩), if_neg hz]
 show th (Gr e n 9 [] ts.tail) _ = _
 rw [h1]
 rfl
theorem rds_8c (h0 : amo 7 2 (hd ts) = 0) (hp : hd ts ≠ opn) (hdv : ¬ (hk ts = 1 ∧ hd ts.tail = wd 15)) (h1 : Rds e 9 [] ts t r) (hc : amo 9 6 (hd r) ≠ 0) (h2 : Rds e 9 [] r.tail u q) : Rds e 8 [] ts (nd (lk (amo 9 6 (hd r))) [t, u]) q := by
 obtain ⟨n, h1⟩ := h1
 obtain ⟨m, h2⟩ := h2
 refine ⟨max n m + 1, ?_⟩
 cases ts with
 | nil =>
  simp only [Gr]
  rw [if_neg (fun h2 => h2 h0), if_neg hp, if_neg hdv, gr_up (Nat.le_max_left n m) h1]
  show (if amo 9 6 (hd r) = 0 then some (Sum.inl (bad e r)) else th (Gr e (max n m) 9 [] r.tail) fun u q => some (.inr (nd (lk (amo 9 6 (hd r))) [t, u], q))) = _
  rw [if_neg hc, gr_up (Nat.le_max_right n m) h2]
  rfl
 | cons a ts =>
  simp only [Gr]
  rw [if_neg (fun h2 => h2 h0), if_neg hp, if_neg hdv, gr_up (Nat.le_max_left n m) h1]
  show (if amo 9 6 (hd r) = 0 then some (Sum.inl (bad e r)) else th (Gr e (max n m) 9 [] r.tail) fun u q => some (.inr (nd (lk (amo 9 6 (hd r))) [t, u], q))) = _
  rw [if_neg hc, gr_up (Nat.le_max_right n m) h2]
  rfl
theorem rds_11n (h : hd ts = wd 3) (h1 : Rds e 11 [] ts.tail t r) : Rds e 11 [] ts (nd (lk 3) [t]) r := by
 obtain ⟨n, h1⟩ := h1
 refine ⟨n + 1, ?_⟩
 cases ts with
 | nil =>
  simp only [Gr]
  rw [if_pos h, h1]
  rfl
 | cons a ts =>
  simp only [Gr]
  rw [if_pos h, h1]
  rfl
theorem rds_11p (h0 : hd ts ≠ wd 3) (h : hd ts = opn) (h1 : Rds e 9 [] ts.tail t r) (hr : hd r = cls') : Rds e 11 [] ts t r.tail := by
 obtain ⟨n, h1⟩ := h1
 refine ⟨n + 1, ?_⟩
 cases ts with
 | nil =>
  simp only [Gr]
  rw [if_neg h0, if_pos h, h1]
  exact if_pos hr
 | cons a ts =>
  simp only [Gr]
  rw [if_neg h0, if_pos h, h1]
  exact if_pos hr
theorem rds_11m {k : TD} (h0 : k.text ≠ wd 3) (hp : k.text ≠ opn) (hk1 : k.kind = 1) (hm : hd ts = wd 6) (h1 : Rds e 11 [] ts.tail t r) : Rds e 11 [] (k :: ts) (nd ⟨6, ⟨#[]⟩, [], false, cl k.num⟩ [t]) r := by
 obtain ⟨n, h1⟩ := h1
 refine ⟨n + 1, ?_⟩
 simp only [Gr]
 rw [if_neg (show ¬ hd (k :: ts) = wd 3 from h0), if_neg (show ¬ hd (k :: ts) = opn from hp), if_pos (show hk (k :: ts) = 1 from hk1), if_pos hm, h1]
 rfl
theorem rds_11k {k : TD} (h0 : k.text ≠ wd 3) (hp : k.text ≠ opn) (hk1 : k.kind = 1) (hm : hd ts ≠ wd 6) : Rds e 11 [] (k :: ts) (nd ⟨1, ⟨#[]⟩, [], false, cl k.num⟩ []) ts := by
 refine ⟨1, ?_⟩
 simp only [Gr]
 rw [if_neg (show ¬ hd (k :: ts) = wd 3 from h0), if_neg (show ¬ hd (k :: ts) = opn from hp), if_pos (show hk (k :: ts) = 1 from hk1), if_neg hm]
theorem rds_11v {k : TD} (h0 : k.text ≠ wd 3) (hp : k.text ≠ opn) (hk1 : k.kind = 2) : Rds e 11 [] (k :: ts) (nd ⟨2, k.text, [], false, []⟩ []) ts := by
 refine ⟨1, ?_⟩
 simp only [Gr]
 rw [if_neg (show ¬ hd (k :: ts) = wd 3 from h0), if_neg (show ¬ hd (k :: ts) = opn from hp), if_neg (show ¬ hk (k :: ts) = 1 from fun h => by rw [show hk (k :: ts) = 2 from hk1] at h; cases h), if_pos (show hk (k :: ts) = 2 from hk1)]
 rfl
end Sx
end Go.Proofs.YtgpaajolcpgeaaaGreatDoor

namespace Go.Proofs.YtgpaajolcpgeaaaGreatDoor
open Go.RowKit
namespace Sx

/-- a kind's word -/
def wkT (k : Int) : TD := ⟨if k = 7 ∨ k = 8 ∨ 15 ≤ k then 3 else 4, wd k.toNat, 0, 0⟩
def opT : TD := ⟨4, opn, 0, 0⟩
def clT : TD := ⟨4, cls', 0, 0⟩
def dtT : TD := ⟨4, dot, 0, 0⟩
def naT (s : ByteArray) : TD := ⟨2, s, 0, 0⟩
def nuT (xs : List Int) : TD := ⟨1, zText (val xs), val xs, 0⟩
abbrev Pw := Tr → Int → Bool → List TD
def ahW (pt : Pw) (t : Tr) (last : Bool) : List TD := wkT (lbO t).k :: ((lbO t).nms.map naT ++ ((if qnt (lbO t).k then [dtT] else []) ++ pt ((ksO t).headD t) (pIn (lbO t).k true) last))
def btW (pt : Pw) (t : Tr) (last : Bool) : Nat → List TD
 | 0 => []
 | i + 1 => btW pt t last i ++ ((if 0 < i then [wkT (lbO t).k] else []) ++ pt ((ksO t).getD i t) (pIn (lbO t).k (i == 0)) (last && (i + 1 == (ksO t).length)))
def brW (pt : Pw) (t : Tr) (last : Bool) : List TD :=
 if (lbO t).k = 1 then [nuT (lbO t).xs]
 else if (lbO t).k = 2 then [naT (lbO t).nm]
 else if (lbO t).k = 7 ∨ (lbO t).k = 8 then [wkT (lbO t).k]
 else if (lbO t).k = 6 ∨ (lbO t).k = 15 then nuT (lbO t).xs :: ahW pt t last
 else if (lbO t).k = 3 ∨ (lbO t).k = 16 ∨ (lbO t).k = 21 ∨ (lbO t).k = 22 then ahW pt t last
 else btW pt t last (ksO t).length
/-- THE WORDS OF WHAT IS PRINTED -/
def paW : Nat → Pw
 | 0, _, _, _ => []
 | n + 1, t, pl, last => if pOf (lbO t).k < pl ∨ (qnt (lbO t).k = true ∧ last = false) then opT :: (brW (paW n) t true ++ [clT]) else brW (paW n) t last
/-- no word of the grammar's own -/
def Pl (s : ByteArray) : Prop := (∀ k, s ≠ wd k) ∧ s ≠ opn ∧ s ≠ cls' ∧ s ≠ dot
/-- a number as the reader has it -/
def Cn (xs : List Int) : Prop := cl (val xs) = xs ∧ Pl (zText (val xs))
/-- terms, formulas (of so many levels) as the reader has them -/
def Tm : Nat → Tr → Prop
 | 0, _ => False
 | n + 1, t => (∃ xs, t = nd ⟨1, ⟨#[]⟩, [], false, xs⟩ [] ∧ Cn xs) ∨ (∃ nm, t = nd ⟨2, nm, [], false, []⟩ [] ∧ Pl nm) ∨ (∃ a, t = nd (lk 3) [a] ∧ Tm n a) ∨
  (∃ k a b, t = nd (lk k) [a, b] ∧ (k = 4 ∨ k = 5) ∧ Tm n a ∧ Tm n b) ∨ (∃ xs a, t = nd ⟨6, ⟨#[]⟩, [], false, xs⟩ [a] ∧ Cn xs ∧ Tm n a)
def Fm : Nat → Tr → Prop
 | 0, _ => False
 | n + 1, t => (∃ k, t = nd (lk k) [] ∧ (k = 7 ∨ k = 8)) ∨ (∃ k a b, t = nd (lk k) [a, b] ∧ (9 ≤ k ∧ k ≤ 14) ∧ Tm n a ∧ Tm n b) ∨
  (∃ xs a, t = nd ⟨15, ⟨#[]⟩, [], false, xs⟩ [a] ∧ Cn xs ∧ val xs ≠ 0 ∧ Tm n a) ∨ (∃ a, t = nd (lk 16) [a] ∧ Fm n a) ∨
  (∃ k ks, t = nd (lk k) ks ∧ (k = 17 ∨ k = 18) ∧ 2 ≤ ks.length ∧ ∀ a ∈ ks, Fm n a) ∨ (∃ k a b, t = nd (lk k) [a, b] ∧ (k = 19 ∨ k = 20) ∧ Fm n a ∧ Fm n b) ∨
  (∃ k ns a, t = nd ⟨k, ⟨#[]⟩, ns, false, []⟩ [a] ∧ (k = 21 ∨ k = 22) ∧ ns ≠ [] ∧ (∀ s ∈ ns, Pl s) ∧ Fm n a)
theorem amo_none {s : ByteArray} (h : ∀ k, s ≠ wd k) (n : Nat) : ∀ a, amo a n s = 0 := by
 induction n with
 | zero => exact fun _ => rfl
 | succ n ih =>
  intro a
  show (if s = wd a then a else amo (a + 1) n s) = 0
  rw [if_neg (h a)]
  exact ih _
/-- how a term begins -/
structure Lead (ts : List TD) : Prop where
 ne : ts ≠ []
 op : hd ts ≠ opn
 tf : amo 7 2 (hd ts) = 0
 nt : hd ts ≠ wd 16
 qu : amo 21 2 (hd ts) = 0
 dv : ∀ r, hd r ≠ wd 15 → ¬ (hk (ts ++ r) = 1 ∧ hd (ts ++ r).tail = wd 15)
theorem lead_app {ts r : List TD} (h : Lead ts) (hr : hd r ≠ wd 15) : Lead (ts ++ r) := by
 obtain ⟨a, l, rfl⟩ := List.exists_cons_of_ne_nil h.ne
 refine ⟨by simp, h.op, h.tf, h.nt, h.qu, fun q hq => ?_⟩
 rw [List.append_assoc]
 refine h.dv (r ++ q) ?_
 cases r with
 | nil => exact hq
 | cons b r => exact hr
theorem lead_num {xs : List Int} (h : Cn xs) {b : TD} {r : List TD} (hr : b.text ≠ wd 15) : Lead (nuT xs :: b :: r) := ⟨by simp, h.2.2.1, amo_none h.2.1 _ _, h.2.1 16, amo_none h.2.1 _ _, fun _ _ hc => hr hc.2⟩
theorem lead_one {xs : List Int} (h : Cn xs) : Lead [nuT xs] := ⟨by simp, h.2.2.1, amo_none h.2.1 _ _, h.2.1 16, amo_none h.2.1 _ _, fun q hq hc => hq hc.2⟩
theorem lead_nam {s : ByteArray} (h : Pl s) : Lead [naT s] := ⟨by simp, h.2.1, amo_none h.1 _ _, h.1 16, amo_none h.1 _ _, fun _ _ hc => absurd hc.1 (show ¬ (2 : Int) = 1 by omega)⟩
theorem lead_neg (r : List TD) : Lead (wkT 3 :: r) := ⟨by simp, show wd 3 ≠ opn by decide, show amo 7 2 (wd 3) = 0 by decide, show wd 3 ≠ wd 16 by decide, show amo 21 2 (wd 3) = 0 by decide, fun _ _ hc => absurd hc.1 (show ¬ (4 : Int) = 1 by omega)⟩
end Sx
end Go.Proofs.YtgpaajolcpgeaaaGreatDoor

namespace Go.Proofs.YtgpaajolcpgeaaaGreatDoor
open Go.RowKit
namespace Sx

/-- a text that is one word, wherever it stands -/
theorem wd_at {x S : ByteArray} {a : Nat} {k n : Int} (hx : Wd x 0 ⟨k, x, n, 0⟩) (h0 : 0 < x.size) (hsz : a + x.size ≤ S.size) (hb : ∀ i, i < x.size → bt S (a + i) = bt x i) (hn : a + x.size < S.size → inRow (bt S (a + x.size)) = false ∧ bt S (a + x.size) ≠ 61) : Wd S a ⟨k, x, n, a⟩ := by
 rcases Nat.eq_or_lt_of_le hsz with he | hl
 ·have hex : S.extract a S.size = x := by
   refine ba_ext (by rw [size_suffix]; omega) fun i hi => ?_
   rw [size_suffix] at hi
   rw [bt_suffix (by omega), hb i (by omega)]
  have hex2 : S.extract a (a + x.size) = x := by rw [he]; exact hex
  have h00 : bt S a = bt x 0 := by have := hb 0 h0; rwa [Nat.add_zero] at this
  obtain ⟨-, -, h3, h4⟩ := hx
  have hrow : RowAt x 0 x.size → RowAt S a x.size := fun hr => ⟨hsz, fun j hj => by rw [hb j hj]; have := hr.2.1 j hj; rwa [Nat.zero_add] at this, fun h => by omega⟩
  refine ⟨rfl, hsz, hex2.symm, ?_⟩
  rcases h4 with ⟨c, r, o, k1, n1⟩ | ⟨c, r, o, k1, n1⟩ | ⟨c1, c2, o, p, k1, n1⟩
  ·exact .inl ⟨by rw [h00]; exact c, hrow r, o, k1, n1⟩
  ·exact .inr (.inl ⟨by rw [h00]; exact c, hrow r, o, k1, n1⟩)
  ·refine .inr (.inr ⟨by rw [h00]; exact c1, by rw [h00]; exact c2, ?_, p, k1, n1⟩)
   rw [hex]
   have e : x.extract 0 x.size = x := by
    refine ba_ext (by rw [size_suffix]; omega) fun i hi => ?_
    rw [size_suffix] at hi
    rw [bt_suffix (by omega), Nat.zero_add]
   rw [e] at o
   exact o
 ·exact wd_shift (a := 0) (a' := a) hx h0 hl (fun i hi => by rw [Nat.zero_add]; exact hb i hi) (.inr ⟨by show 0 + x.size = _; omega, hn hl⟩)
/-- .. an opening parenthesis, a minus: whatever follows -/
theorem wd_tight {S : ByteArray} {k : Nat} {c : UInt8} (hk : k < S.size) (hb : bt S k = c.toNat) (hc : c = 40 ∨ c = 45) : Wd S k ⟨4, ⟨#[c]⟩, 0, k⟩ := by
 have hz : (⟨#[c]⟩ : ByteArray).size = 1 := rfl
 have h0 : bt (S.extract k S.size) 0 = c.toNat := by rw [bt_suffix (by omega), Nat.add_zero, hb]
 have hcn : c.toNat = 40 ∨ c.toNat = 45 := by
  rcases hc with rfl | rfl
  ·exact .inl rfl
  ·exact .inr rfl
 have hs : (S.extract k S.size).size = S.size - k := size_suffix
 have hsz : (sgOf (S.extract k S.size)).size = 1 := by
  have e := sgOf_size (s := S.extract k S.size) (by omega)
  change _ = if twoB _ = true then 2 else _ at e
  have hnt : ¬ twoB (S.extract k S.size) = true := fun h => by
   have h3 := (twoB_iff.1 h).2.1
   rw [h0] at h3
   omega
  rw [if_neg hnt, h0, if_pos (by rcases hcn with e | e <;> rw [e] <;> rfl)] at e
  exact e
 have he := sgOf_eq (s := S.extract k S.size) (by omega)
 rw [hsz, extract_suffix (by omega)] at he
 have ht : (⟨#[c]⟩ : ByteArray) = S.extract k (k + 1) := by
  refine ba_ext (by rw [size_mid (by omega)]; rfl) fun i hi => ?_
  obtain rfl : i = 0 := by rw [hz] at hi; omega
  rw [bt_mid' (by omega) (by omega), Nat.add_zero, hb]
  rfl
 refine ⟨rfl, by show k + 1 ≤ _; omega, ht, .inr (.inr ⟨?_, ?_, by rw [he]; exact ht, by show 0 < 1; omega, rfl, rfl⟩)⟩
 ·rw [hb]
  rcases hc with rfl | rfl <;> decide
 ·rw [hb]
  rcases hc with rfl | rfl <;> decide
/-- what may stand behind: after a word that stands tight anything but a sign of equality, else nothing that belongs to a word -/
def Nok (g : Bool) (c : Nat) : Prop := c ≠ 61 ∧ (g = false → inRow c = false)
/-- these bytes are the words ds, whatever follows -/
def Pre (l : List UInt8) (ds : List TD) (g : Bool) : Prop :=
 ∀ S : ByteArray, l.length ≤ S.size → (∀ i, i < l.length → bt S i = (l.getD i 0).toNat) → (l.length < S.size → Nok g (bt S l.length)) → ∀ us e p, Lx S l.length us e p → ∃ ts, Lx S 0 (ts ++ us) e p ∧ Sim ds ts
theorem pre_nil (g : Bool) : Pre [] [] g := fun _ _ _ _ _ _ _ h => ⟨[], h, rfl⟩
theorem Pre.loose {l : List UInt8} {ds : List TD} (h : Pre l ds true) : Pre l ds false := fun S h1 h2 h3 us e p hu => h S h1 h2 (fun hl => ⟨(h3 hl).1, fun h => by cases h⟩) us e p hu
/-- a word that may be written: its text, how it stands -/
structure Tk (t : TD) (g : Bool) : Prop where
 pos : 0 < t.text.size
 nb : cls (bt t.text 0) ≠ 0
 w : ∀ (S : ByteArray) (a : Nat), a + t.text.size ≤ S.size → (∀ i, i < t.text.size → bt S (a + i) = bt t.text i) → (a + t.text.size < S.size → Nok g (bt S (a + t.text.size))) → Wd S a ⟨t.kind, t.text, t.num, a⟩
theorem pre_word {l : List UInt8} {ds : List TD} {g g' : Bool} {t : TD} (h : Pre l ds g) (ht : Tk t g') (b : Bool) (hb : b = false → Nok g (bt t.text 0)) : Pre ((if b = true then l ++ [32] else l) ++ t.text.data.toList) (ds ++ [t]) g' := by
 intro S h1 h2 h3 us e p hu
 have hl : ((if b = true then l ++ [32] else l) ++ t.text.data.toList).length = l.length + (if b = true then 1 else 0) + t.text.size := by
  cases b with
  | true => rw [if_pos rfl, if_pos rfl, List.length_append, List.length_append]; rfl
  | false => rw [if_neg (by decide), if_neg (by decide), List.length_append, Nat.add_zero]; rfl
 rw [hl] at h1 h3 hu
 have hpos := ht.pos
 obtain ⟨d, hd⟩ : ∃ d, (if b = true then 1 else 0) = d := ⟨_, rfl⟩
 rw [hd] at h1 h3 hu hl
 have hby : ∀ i, i < t.text.size → bt S (l.length + d + i) = bt t.text i := fun i hi => by
  rw [h2 _ (by rw [hl]; omega)]
  unfold bt
  cases b with
  | true =>
   have hd1 : d = 1 := hd.symm
   subst hd1
   simp only [if_true, List.getD_eq_getElem?_getD]
   rw [List.getElem?_append_right (by simp)]
   congr 3
   simp
  | false =>
   have hd1 : d = 0 := hd.symm
   subst hd1
   simp only [Bool.false_eq_true, if_false, List.getD_eq_getElem?_getD]
   rw [List.getElem?_append_right (by omega)]
   congr 3
   omega
 have hw := ht.w S (l.length + d) (by omega) hby h3
 have hlo : ∀ i, i < l.length → bt S i = (l.getD i 0).toNat := fun i hi => by
  rw [h2 i (by rw [hl]; omega)]
  congr 1
  cases b <;> simp [List.getD_eq_getElem?_getD, List.getElem?_append_left, hi]
 have hbl : BlankEnd S l.length (l.length + d) := by
  refine ⟨by omega, by omega, fun j j1 j2 => ?_, fun _ => ?_⟩
  ·cases b with
   | false => have hd1 : d = 0 := hd.symm; omega
   | true =>
    have hd1 : d = 1 := hd.symm
    obtain rfl : j = l.length := by omega
    rw [h2 _ (by rw [hl]; omega)]
    simp [List.getD_eq_getElem?_getD]
    decide
  ·have := hby 0 hpos
   rw [Nat.add_zero] at this
   rw [this]
   exact ht.nb
 have hx := Lx.word hbl (by omega) hw hu
 have hno : Nok g (bt S l.length) := by
  cases b with
  | false =>
   have hd1 : d = 0 := hd.symm
   subst hd1
   have := hby 0 hpos
   rw [Nat.add_zero] at this
   rw [this]
   exact hb rfl
  | true =>
   rw [show bt S l.length = 32 by
    rw [h2 _ (by rw [hl]; omega)]
    simp [List.getD_eq_getElem?_getD]]
   exact ⟨by decide, fun _ => by decide⟩
 obtain ⟨ts, h4, h5⟩ := h S (by omega) hlo (fun _ => hno) _ e p hx
 refine ⟨ts ++ [⟨t.kind, t.text, t.num, l.length + d⟩], by rw [List.append_assoc]; exact h4, ?_⟩
 unfold Sim at h5 ⊢
 rw [List.map_append, List.map_append, h5]
 rfl
end Sx
end Go.Proofs.YtgpaajolcpgeaaaGreatDoor

namespace Go.Proofs.YtgpaajolcpgeaaaGreatDoor
open Go.RowKit
namespace Sx

theorem amo_45 {k : Int} (h : k = 4 ∨ k = 5) : ((amo 4 2 (wkT k).text : Nat) : Int) = k ∧ amo 4 2 (wkT k).text ≠ 0 ∧ (wkT k).text ≠ wd 6 ∧ (wkT k).text ≠ wd 15 := by
 rcases h with rfl | rfl <;> decide
/-- what reading a term's words says: in a sum, as an operand; how they begin -/
structure TT (e n : Nat) (t : Tr) (last : Bool) : Prop where
 s : ∀ r v q, hd r ≠ wd 6 → Rds e 10 [t] r v q → Rds e 9 [] (paW n t 6 last ++ r) v q
 o : ∀ r, hd r ≠ wd 6 → Rds e 11 [] (paW n t 7 last ++ r) t r
 l : Lead (paW n t 6 last)
theorem tt_op {e n : Nat} {t : Tr} {last : Bool} (h : paW n t 6 last = paW n t 7 last) (o : ∀ r, hd r ≠ wd 6 → Rds e 11 [] (paW n t 7 last ++ r) t r) (l : Lead (paW n t 7 last)) : TT e n t last :=
 ⟨fun r _ _ hr h2 => rds_9 (h ▸ o r hr) h2, o, h ▸ l⟩
theorem tt_n {e : Nat} (n : Nat) : ∀ {t : Tr} (last : Bool), Tm n t → TT e n t last := by
 induction n with
 | zero => exact fun _ h => h.elim
 | succ n ih =>
  intro t last h
  rcases h with ⟨xs, rfl, hc⟩ | ⟨nm, rfl, hp⟩ | ⟨a, rfl, ha⟩ | ⟨k, a, b, rfl, hk, ha, hb⟩ | ⟨xs, a, rfl, hc, ha⟩
  ·have e6 : ∀ pl : Int, pl ≤ 7 → paW (n + 1) (nd ⟨1, ⟨#[]⟩, [], false, xs⟩ []) pl last = [nuT xs] := fun pl hpl => by
    show (if pOf 1 < pl ∨ (qnt 1 = true ∧ last = false) then _ else _) = _
    rw [if_neg (by rw [show pOf 1 = 7 from rfl, show qnt 1 = false from rfl]; simp; omega)]
    rfl
   refine tt_op ((e6 6 (by omega)).trans (e6 7 (by omega)).symm) (fun r hr => ?_) ?_
   ·rw [e6 7 (by omega)]
    have := rds_11k (e := e) (k := nuT xs) (ts := r) (hc.2.1 3) hc.2.2.1 rfl hr
    rw [show cl (nuT xs).num = xs from hc.1] at this
    exact this
   ·rw [e6 7 (by omega)]
    exact lead_one hc
  ·have e6 : ∀ pl : Int, pl ≤ 7 → paW (n + 1) (nd ⟨2, nm, [], false, []⟩ []) pl last = [naT nm] := fun pl hpl => by
    show (if pOf 2 < pl ∨ (qnt 2 = true ∧ last = false) then _ else _) = _
    rw [if_neg (by rw [show pOf 2 = 7 from rfl, show qnt 2 = false from rfl]; simp; omega)]
    rfl
   refine tt_op ((e6 6 (by omega)).trans (e6 7 (by omega)).symm) (fun r hr => ?_) ?_
   ·rw [e6 7 (by omega)]
    exact rds_11v (e := e) (k := naT nm) (ts := r) (hp.1 3) hp.2.1 rfl
   ·rw [e6 7 (by omega)]
    exact lead_nam hp
  ·have e6 : ∀ pl : Int, pl ≤ 7 → paW (n + 1) (nd (lk 3) [a]) pl last = wkT 3 :: paW n a 7 last := fun pl hpl => by
    show (if pOf 3 < pl ∨ (qnt 3 = true ∧ last = false) then _ else _) = _
    rw [if_neg (by rw [show pOf 3 = 7 from rfl, show qnt 3 = false from rfl]; simp; omega)]
    rfl
   refine tt_op ((e6 6 (by omega)).trans (e6 7 (by omega)).symm) (fun r hr => ?_) ?_
   ·rw [e6 7 (by omega)]
    exact rds_11n (show (wkT 3).text = wd 3 from rfl) ((ih last ha).o r hr)
   ·rw [e6 7 (by omega)]
    exact lead_neg _
  ·obtain ⟨k1, k2, k3, k4⟩ := amo_45 hk
   have hq : qnt k = false := by rcases hk with rfl | rfl <;> rfl
   have hp : pOf k = 6 := by rcases hk with rfl | rfl <;> rfl
   have eB : ∀ last, brW (paW n) (nd (lk k) [a, b]) last = paW n a 6 false ++ wkT k :: paW n b 7 last := fun last => by
    rcases hk with rfl | rfl <;> cases last <;> simp [brW, btW, lbO_nd, ksO_nd, lk, pIn]
   have hS : ∀ last r v q, hd r ≠ wd 6 → Rds e 10 [nd (lk k) [a, b]] r v q → Rds e 9 [] (brW (paW n) (nd (lk k) [a, b]) last ++ r) v q := fun last r v q hr h2 => by
    rw [eB last, List.append_assoc, List.cons_append]
    refine (ih false ha).s _ v q k3 (rds_10w k2 ((ih last hb).o r hr) ?_)
    show Rds e 10 [nd (lk ((amo 4 2 (wkT k).text : Nat) : Int)) ([a] ++ [b])] r v q
    rw [k1]
    exact h2
   have e6 : paW (n + 1) (nd (lk k) [a, b]) 6 last = brW (paW n) (nd (lk k) [a, b]) last := by
    show (if pOf k < 6 ∨ (qnt k = true ∧ last = false) then _ else _) = _
    rw [if_neg (by rw [hp, hq]; simp)]
   have e7 : paW (n + 1) (nd (lk k) [a, b]) 7 last = opT :: (brW (paW n) (nd (lk k) [a, b]) true ++ [clT]) := by
    show (if pOf k < 7 ∨ (qnt k = true ∧ last = false) then _ else _) = _
    rw [if_pos (.inl (by rw [hp]; decide))]
   refine ⟨fun r v q hr h2 => by rw [e6]; exact hS last r v q hr h2, fun r _ => ?_, ?_⟩
   ·rw [e7, List.cons_append, List.append_assoc]
    exact rds_11p (r := clT :: r) (show opn ≠ wd 3 by decide) rfl (hS true _ _ _ (show cls' ≠ wd 6 by decide) (rds_10e (acc := [nd (lk k) [a, b]]) (show amo 4 2 cls' = 0 by decide))) rfl
   ·rw [e6, eB]
    exact lead_app (ih false ha).l k4
  ·have e6 : ∀ pl : Int, pl ≤ 7 → paW (n + 1) (nd ⟨6, ⟨#[]⟩, [], false, xs⟩ [a]) pl last = nuT xs :: wkT 6 :: paW n a 7 last := fun pl hpl => by
    show (if pOf 6 < pl ∨ (qnt 6 = true ∧ last = false) then _ else _) = _
    rw [if_neg (by rw [show pOf 6 = 7 from rfl, show qnt 6 = false from rfl]; simp; omega)]
    rfl
   refine tt_op ((e6 6 (by omega)).trans (e6 7 (by omega)).symm) (fun r hr => ?_) ?_
   ·rw [e6 7 (by omega)]
    have := rds_11m (e := e) (k := nuT xs) (ts := wkT 6 :: (paW n a 7 last ++ r)) (hc.2.1 3) hc.2.2.1 rfl rfl ((ih last ha).o r hr)
    rw [show cl (nuT xs).num = xs from hc.1] at this
    exact this
   ·rw [e6 7 (by omega)]
    exact lead_num hc (show wd 6 ≠ wd 15 by decide)
end Sx
end Go.Proofs.YtgpaajolcpgeaaaGreatDoor
