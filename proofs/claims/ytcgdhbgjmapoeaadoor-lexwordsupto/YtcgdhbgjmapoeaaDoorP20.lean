/-
 Layer 3: are words the document's, one by one?
-/
import Derived.Test.YtcgdhbgjmapoeaaDoorP18
namespace Go.Proofs.YtcgdhbgjmapoeaaDoor
open Go.RowKit Go.Shelf

theorem is3_e {x y : TM} {w1 w2 w : World} (h1 : Mg w1 w x) (h2 : Mg w2 w y) (hd : x.d = y.d) :
  Calls Tryd.prog 17 #[.agg #[.int .i64 x.d.kind, .string x.d.text, .bool false, .slice x.ad x.len x.cap, .int .i64 x.d.at'], .agg #[.int .i64 y.d.kind, .string y.d.text, .bool false, .slice y.ad y.len y.cap, .int .i64 y.d.at']] w fun e w' => e = .returned (.bool true) ∧ Below w.heap.size w w' := is3_t h1 h2 hd
set_option maxRecDepth 100000 in
set_option maxHeartbeats 6400000 in
theorem are_t {w : World} {b1 b2 : Nat} {v1 v2 : Value} {xs ys : List TM} (h1 : w.ownsRow b1 44 5 v1 xs.length (xs.flatMap V5)) (h2 : w.ownsRow b2 46 5 v2 ys.length (ys.flatMap V5))
  (m1 : ∀ x ∈ xs, ∃ w0, Mg w0 w x) (m2 : ∀ x ∈ ys, ∃ w0, Mg w0 w x) (hd : xs.map TM.d = ys.map TM.d) (hn : xs.length ≤ 1099511627776) :
  Calls Tryd.prog 10 #[v1, v2] w fun e w' => e = .returned (.bool true) ∧ Below w.heap.size w w' := by
 have hlen : xs.length = ys.length := by have := congrArg List.length hd; simpa using this
 rcases Nat.eq_zero_or_pos xs.length with h0 | h0
 ·obtain ⟨a1, c1, rfl⟩ := own_slice2 h1
  obtain ⟨a2, c2, rfl⟩ := own_slice2 h2
  rw [← hlen, h0]
  clear h1 h2 m1 m2 hd hlen
  go_enter Tryd.func10, Tryd.ntmps10
  go_wp2_with fail
  go_loop [5] (fun i => i = .int .i64 0) (fun _ => 0)
  case atStart => rfl
  case round =>
   obtain rfl := hrel
   go_wp2_with fail
   go_ret
   exact ⟨rfl, Below.refl _ _⟩
 ·obtain ⟨g1, c1, rfl, hb1, hg1, hc1, hm1, cell1⟩ := own_cells h1 h0
  obtain ⟨g2, c2, rfl, hb2, hg2, hc2, hm2, cell2⟩ := own_cells h2 (by omega)
  replace cell1 := hide cell1
  replace cell2 := hide cell2
  have HD := hide hd
  replace m1 := hide m1
  replace m2 := hide m2
  clear h1 h2 hd
  have HX := hide hlen
  rw [hlen] at hc1 hn h0 ⊢
  clear hlen
  generalize hy : ys.length = n at hc1 hc2 hn h0 ⊢
  replace hy := hide hy
  go_enter Tryd.func10, Tryd.ntmps10
  go_wp2_with fail
  go_loopw [5] (fun i wr => ∃ k : Nat, k ≤ n ∧ i = .int .i64 k ∧ Below w.heap.size w wr) (fun i _ => n - (intOf i).toNat)
  case atStart => exact ⟨0, Nat.zero_le _, rfl, Below.refl _ _⟩
  case round =>
   obtain ⟨k, hk, rfl, hB⟩ := hrel
   by_cases hkn : k < n
   ·have hkl2 : k < ys.length := by rw [hy.out]; exact hkn
    have hkl : k < xs.length := by rw [HX.out]; exact hkl2
    have kc1 : ∀ j, j < 5 → wr.cell? ⟨g1, k * 5 + j, none⟩ = (V5 xs[k])[j]? := fun j hj => (hB.cell (p := ⟨g1, k * 5 + j, none⟩) hg1).trans (cell1.out k j hkl hj)
    have kc2 : ∀ j, j < 5 → wr.cell? ⟨g2, k * 5 + j, none⟩ = (V5 ys[k])[j]? := fun j hj => (hB.cell (p := ⟨g2, k * 5 + j, none⟩) hg2).trans (cell2.out k j hkl2 hj)
    obtain ⟨u1, hM1⟩ := m1.out xs[k] (List.getElem_mem hkl)
    obtain ⟨u2, hM2⟩ := m2.out ys[k] (List.getElem_mem hkl2)
    have hdk : xs[k].d = ys[k].d := by
     have e : (xs.map TM.d)[k]'(by simpa using hkl) = (ys.map TM.d)[k]'(by simpa using hkl2) := by simp only [HD.out]
     simpa using e
    replace hM1 := hM1.later hB
    replace hM2 := hM2.later hB
    generalize xs[k] = x at *
    generalize ys[k] = y at *
    have p0 : wr.cell? ⟨g1, k * 5, none⟩ = some (.int .i64 x.d.kind) := kc1 0 (by decide)
    have p1 : wr.cell? ⟨g1, k * 5 + 1, none⟩ = some (.string x.d.text) := kc1 1 (by decide)
    have p2 : wr.cell? ⟨g1, k * 5 + 2, none⟩ = some (.bool false) := kc1 2 (by decide)
    have p3 : wr.cell? ⟨g1, k * 5 + 3, none⟩ = some (.slice x.ad x.len x.cap) := kc1 3 (by decide)
    have p4 : wr.cell? ⟨g1, k * 5 + 4, none⟩ = some (.int .i64 x.d.at') := kc1 4 (by decide)
    have q0 : wr.cell? ⟨g2, k * 5, none⟩ = some (.int .i64 y.d.kind) := kc2 0 (by decide)
    have q1 : wr.cell? ⟨g2, k * 5 + 1, none⟩ = some (.string y.d.text) := kc2 1 (by decide)
    have q2 : wr.cell? ⟨g2, k * 5 + 2, none⟩ = some (.bool false) := kc2 2 (by decide)
    have q3 : wr.cell? ⟨g2, k * 5 + 3, none⟩ = some (.slice y.ad y.len y.cap) := kc2 3 (by decide)
    have q4 : wr.cell? ⟨g2, k * 5 + 4, none⟩ = some (.int .i64 y.d.at') := kc2 4 (by decide)
    clear kc1 kc2 hkl hkl2
    go_wp2_with fail
    have HDK := hide hdk
    clear hdk
    replace hM1 := hM1.later (Below.refl _ _).drew
    replace hM2 := hM2.later (Below.refl _ _).drew
    go_region_with (go_at_call 17; with_reducible refine (is3_e hM1 hM2 HDK.out).mono ?_; rintro e w3 ⟨rfl, hb3⟩)
    all_goals (
     go_wp2_with fail
     exact ⟨⟨k + 1, by omega, by go_num, grow_step hb3 hB.drew⟩, by simp [intOf]; omega⟩)
   ·obtain rfl : k = n := by omega
    go_wp2_with fail
    go_ret
    exact ⟨rfl, hB⟩
end Go.Proofs.YtcgdhbgjmapoeaaDoor
