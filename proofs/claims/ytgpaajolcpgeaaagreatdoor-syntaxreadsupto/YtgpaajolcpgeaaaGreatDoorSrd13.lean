/-
 Several texts in one: P2, P3, P4.
-/
import Derived.Test.YtgpaajolcpgeaaaGreatDoorSrd12
import Derived.WalkLawsBesides
import Derived.Deep.RegionHeld3
namespace Go.Proofs.YtgpaajolcpgeaaaGreatDoor
open Go.RowKit
namespace Sx

/-- the words in memory -/
structure Ws (F : Nat → Prop) (w : World) (xs : List TM) (va : Option Addr) (vn : Nat) : Prop where
 n : xs.length = vn
 row : vn = 0 ∨ ∃ g, va = some ⟨g, 0, none⟩ ∧ F g ∧ g < w.heap.size ∧ ∀ i (h : i < xs.length) j, j < 5 → w.cell? ⟨g, i * 5 + j, none⟩ = (V5 xs[i])[j]?
 mag : ∀ x ∈ xs, Rd w x.ad x.len x.cap x.zs ∧ InS F x.ad x.len ∧ Canon x.zs ∧ val x.zs = x.d.num
theorem Ws.kf {F : Nat → Prop} {w w' : World} {xs : List TM} {va : Option Addr} {vn : Nat} (h : Ws F w xs va vn) (k : Kf F w w') : Ws F w' xs va vn := by
 refine ⟨h.n, ?_, fun x hx => ⟨rd_kf (h.mag x hx).1 (h.mag x hx).2.1 k, (h.mag x hx).2⟩⟩
 rcases h.row with h2 | ⟨g, e, hb, hl, h2⟩
 ·exact .inl h2
 ·exact .inr ⟨g, e, hb, Nat.lt_of_lt_of_le hl k.size, fun i hi j hj => (k.cell hb hl).trans (h2 i hi j hj)⟩
/-- the variable that holds the kinds' words -/
def Wo (w : World) : Prop := ∃ ty fr, w.heap[0]? = some (.cells ((List.range 23).map fun i => Value.string (wd i)).toArray ty fr)
theorem Wo.kept {w w' : World} (h : Wo w) (k : w'.heap[0]? = w.heap[0]?) : Wo w' := by
 obtain ⟨ty, fr, h2⟩ := h
 exact ⟨ty, fr, k.trans h2⟩
theorem Wo.lt {w : World} (h : Wo w) : 0 < w.heap.size := by
 obtain ⟨ty, fr, h2⟩ := h
 exact (Array.getElem?_eq_some_iff.1 h2).1
theorem Wo.below {w w' : World} (h : Wo w) (k : Below w.heap.size w w') : Wo w' := h.kept (k.block _ h.lt)
theorem Wo.cell {w : World} (h : Wo w) {k : Nat} (hk : k < 23) : w.cell? ⟨0, k, none⟩ = some (.string (wd k)) := by
 obtain ⟨ty, fr, h2⟩ := h
 rw [cell_of_row w _ k _ _ fr h2]
 simp [hk]
/-- the reader at its p-th word -/
structure RS (F : Nat → Prop) (w : World) (br : Nat) (va : Option Addr) (vn vc e : Nat) (xs : List TM) (p : Nat) : Prop where
 b : w.heap[br]? = some (.cells #[.slice va vn vc, .int .i64 p, .int .i64 e] 122 (0, 0))
 ws : Ws F w xs va vn
 pl : p ≤ xs.length
 nl : vn ≤ 1048576
 nf : ¬ F br
 wo : Wo w
 ng : 0 ≠ br
theorem RS.lt {F : Nat → Prop} {w : World} {br : Nat} {va : Option Addr} {vn vc e : Nat} {xs : List TM} {p : Nat} (h : RS F w br va vn vc e xs p) : br < w.heap.size := (Array.getElem?_eq_some_iff.1 h.b).1
theorem RS.below {F : Nat → Prop} {w w' : World} {br : Nat} {va : Option Addr} {vn vc e : Nat} {xs : List TM} {p : Nat} (h : RS F w br va vn vc e xs p) (k : Below w.heap.size w w') : RS F w' br va vn vc e xs p :=
 { h with b := (k.block br h.lt).trans h.b, ws := h.ws.kf (Kf.of_below k), wo := h.wo.below k }
theorem RS.c0 {F : Nat → Prop} {w : World} {br : Nat} {va : Option Addr} {vn vc e : Nat} {xs : List TM} {p : Nat} (h : RS F w br va vn vc e xs p) : w.cell? ⟨br, 0, none⟩ = some (.slice va vn vc) := cell_of_row w br 0 _ _ (0, 0) h.b
theorem RS.c1 {F : Nat → Prop} {w : World} {br : Nat} {va : Option Addr} {vn vc e : Nat} {xs : List TM} {p : Nat} (h : RS F w br va vn vc e xs p) : w.cell? ⟨br, 1, none⟩ = some (.int .i64 p) := cell_of_row w br 1 _ _ (0, 0) h.b
theorem RS.c2 {F : Nat → Prop} {w : World} {br : Nat} {va : Option Addr} {vn vc e : Nat} {xs : List TM} {p : Nat} (h : RS F w br va vn vc e xs p) : w.cell? ⟨br, 2, none⟩ = some (.int .i64 e) := cell_of_row w br 2 _ _ (0, 0) h.b
theorem RS.f {F : Nat → Prop} {w : World} {br : Nat} {va : Option Addr} {vn vc e : Nat} {xs : List TM} {p : Nat} (h : RS F w br va vn vc e xs p) (i : Nat) : w.frozen? ⟨br, i, none⟩ = false := frozen_of_row w br i _ _ h.b
/-- the word at a place: no word's is of no kind -/
def tkV (xs : List TM) (i : Nat) : Value :=
 match xs[i]? with
 | some x => tokV x
 | none => .agg #[.int .i64 0, .string ⟨#[]⟩, .bool false, .slice none 0 0, .int .i64 0]
set_option maxRecDepth 100000 in
set_option maxHeartbeats 3200000 in
theorem next_n {F : Nat → Prop} {w : World} {br : Nat} {va : Option Addr} {vn vc e : Nat} {xs : List TM} {p : Nat} (h : RS F w br va vn vc e xs p) (k : Nat) (hk : k ≤ 1) :
  Calls Tryz.prog 144 #[.pointer (some ⟨br, 0, none⟩), .int .i64 k] w fun en w' => en = .returned (tkV xs (p + k)) ∧ Below w.heap.size w w' := by
 have hn := h.ws.n
 have hpl := h.pl
 have hnl := h.nl
 have b0 := below_alloc w (.cells #[.int .i64 0, .string ⟨#[]⟩, .bool false, .slice none 0 0, .int .i64 0] 119)
 have y : TB _ w.heap.size _ _ _ _ _ := heap_alloc_new w (.cells #[.int .i64 0, .string ⟨#[]⟩, .bool false, .slice none 0 0, .int .i64 0] 119)
 have hbn0 : br ≠ w.heap.size := by have := h.lt; omega
 have hrow := h.ws.row
 replace h := h.below b0
 have hw1 : IntKind.i64.wrap ((p : Int) + (k : Int)) = ((p + k : Nat) : Int) := by
  rw [IntKind.wrap_i64]
  omega
 have c0 := h.c0
 have c1 := h.c1
 go_enter Tryz.func144, Tryz.ntmps144
 go_wp2_with fail
 generalize w.alloc (.cells #[.int .i64 0, .string ⟨#[]⟩, .bool false, .slice none 0 0, .int .i64 0] 119) = wb at *
 replace b0 := hide b0
 by_cases hlt : p + k < xs.length
 ·have hle : decide ((vn : Int) ≤ (p : Int) + (k : Int)) = false := by
   rw [decide_eq_false_iff_not]
   omega
  obtain ⟨g, rfl, hg, hgl, hc⟩ : ∃ g, va = some ⟨g, 0, none⟩ ∧ F g ∧ g < w.heap.size ∧ ∀ i (h : i < xs.length) j, j < 5 → wb.cell? ⟨g, i * 5 + j, none⟩ = (V5 xs[i])[j]? := by
   rcases hrow with h0 | ⟨g, h1, h2, h3, h4⟩
   ·omega
   ·exact ⟨g, h1, h2, h3, fun i hi j hj => (World.cell?_of_block (a := ⟨g, i * 5 + j, none⟩) (b0.out.block g h3)).trans (h4 i hi j hj)⟩
  have e0 : wb.cell? ⟨g, (p + k) * 5, none⟩ = some (.int .i64 (xs[p + k]).d.kind) := hc (p + k) hlt 0 (by decide)
  have e1 : wb.cell? ⟨g, (p + k) * 5 + 1, none⟩ = some (.string (xs[p + k]).d.text) := hc (p + k) hlt 1 (by decide)
  have e2 : wb.cell? ⟨g, (p + k) * 5 + 2, none⟩ = some (.bool false) := hc (p + k) hlt 2 (by decide)
  have e3 : wb.cell? ⟨g, (p + k) * 5 + 3, none⟩ = some (.slice (xs[p + k]).ad (xs[p + k]).len (xs[p + k]).cap) := hc (p + k) hlt 3 (by decide)
  have e4 : wb.cell? ⟨g, (p + k) * 5 + 4, none⟩ = some (.int .i64 (xs[p + k]).d.at') := hc (p + k) hlt 4 (by decide)
  have htv : Hid (tkV xs (p + k) = tokV xs[p + k]) := hide (by unfold tkV; rw [List.getElem?_eq_getElem hlt])
  generalize xs[p + k] = x at *
  go_quiet (fail)
  have f0 := y.c0
  have f1 := y.c1
  have f2 := y.c2
  have f3 := y.c3
  have f4 := y.c4
  have hgn : g ≠ w.heap.size := by omega
  have hbn : br ≠ w.heap.size := hbn0
  have hS : Hid (∀ w', Only w.heap.size wb w' → w'.cell? ⟨br, 0, none⟩ = some (.slice (some ⟨g, 0, none⟩) vn vc) ∧ w'.cell? ⟨br, 1, none⟩ = some (.int .i64 p) ∧ w'.cell? ⟨g, (p + k) * 5, none⟩ = some (.int .i64 x.d.kind) ∧ w'.cell? ⟨g, (p + k) * 5 + 1, none⟩ = some (.string x.d.text) ∧ w'.cell? ⟨g, (p + k) * 5 + 2, none⟩ = some (.bool false) ∧ w'.cell? ⟨g, (p + k) * 5 + 3, none⟩ = some (.slice x.ad x.len x.cap) ∧ w'.cell? ⟨g, (p + k) * 5 + 4, none⟩ = some (.int .i64 x.d.at')) := hide fun w' o => by
   have ob := fun (i : Nat) => World.cell?_of_block (a := ⟨br, i, none⟩) (o.block br hbn)
   have og := fun (i : Nat) => World.cell?_of_block (a := ⟨g, i, none⟩) (o.block g hgn)
   exact ⟨(ob 0).trans c0, (ob 1).trans c1, (og _).trans e0, (og _).trans e1, (og _).trans e2, (og _).trans e3, (og _).trans e4⟩
  have hfin := hide (tb_fin (show TB (wb.drewN nq) w.heap.size _ _ _ _ _ from y) (.int .i64 x.d.kind) (.string x.d.text) (.bool false) (.slice x.ad x.len x.cap) (.int .i64 x.d.at'))
  have hi0 : (0 : Int) ≤ (p : Int) + (k : Int) := by omega
  have hi1 : (p : Int) + (k : Int) < (vn : Int) := by omega
  have hi2 : ((p : Int) + (k : Int)).toNat = p + k := by omega
  clear hc h hrow
  go_wp2_with fail
  refine wp_region_held_drew (S := (fun w' => w'.cell? ⟨br, 0, none⟩ = some (.slice (some ⟨g, 0, none⟩) vn vc) ∧ w'.cell? ⟨br, 1, none⟩ = some (.int .i64 p) ∧ w'.cell? ⟨g, (p + k) * 5, none⟩ = some (.int .i64 x.d.kind) ∧ w'.cell? ⟨g, (p + k) * 5 + 1, none⟩ = some (.string x.d.text) ∧ w'.cell? ⟨g, (p + k) * 5 + 2, none⟩ = some (.bool false) ∧ w'.cell? ⟨g, (p + k) * 5 + 3, none⟩ = some (.slice x.ad x.len x.cap) ∧ w'.cell? ⟨g, (p + k) * 5 + 4, none⟩ = some (.int .i64 x.d.at'))) (by kernel_rfl) (hS.out _ ((Only.drewN _ _ _).trans (Only.drew _ _))) (fun hHeld => ?_)
  show wpAnyH _ _ _ _ _ 13 _ _ _
  refine wpAnyH_take (i := 0) (oi := ⟨some 18, _, _, _, _, _⟩) (v := ?_) rfl (by kernel_rfl) (by kernel_rfl) (by kernel_rfl) (fun _ _ _ h => by first | exact h | cases h.1) (Or.inl ⟨by rfl, ?_⟩) (by assumption) ?_
  rotate_left
  ·intro wq hSw; (try dsimp only at hSw); go_simp; (try with_reducible rfl)
  (try simp only [Act.put, List.setIfInBounds_toArray, List.set_cons_zero, List.set_cons_succ])
  refine wpAnyH_take (i := 1) (oi := ⟨some 19, _, _, _, _, _⟩) (v := ?_) rfl (by kernel_rfl) (by kernel_rfl) (by kernel_rfl) (fun _ _ _ h => by first | exact h | cases h.1) (Or.inl ⟨by rfl, ?_⟩) (by assumption) ?_
  rotate_left
  ·intro wq hSw; (try dsimp only at hSw); go_simp; (try with_reducible rfl)
  (try simp only [Act.put, List.setIfInBounds_toArray, List.set_cons_zero, List.set_cons_succ])
  refine wpAnyH_take (i := 2) (oi := ⟨some 20, _, _, _, _, _⟩) (v := ?_) rfl (by kernel_rfl) (by kernel_rfl) (by kernel_rfl) (fun _ _ _ h => by first | exact h | cases h.1) (Or.inl ⟨by rfl, ?_⟩) (by assumption) ?_
  rotate_left
  ·intro wq hSw; (try dsimp only at hSw); go_simp; (try with_reducible rfl)
  (try simp only [Act.put, List.setIfInBounds_toArray, List.set_cons_zero, List.set_cons_succ])
  refine wpAnyH_take (i := 3) (oi := ⟨some 21, _, _, _, _, _⟩) (v := ?_) rfl (by kernel_rfl) (by kernel_rfl) (by kernel_rfl) (fun _ _ _ h => by first | exact h | cases h.1) (Or.inl ⟨by rfl, ?_⟩) (by assumption) ?_
  rotate_left
  ·intro wq hSw; (try dsimp only at hSw); go_simp; (try with_reducible rfl)
  (try simp only [Act.put, List.setIfInBounds_toArray, List.set_cons_zero, List.set_cons_succ])
  refine wpAnyH_take (i := 4) (oi := ⟨some 22, _, _, _, _, _⟩) (v := ?_) rfl (by kernel_rfl) (by kernel_rfl) (by kernel_rfl) (fun _ _ _ h => by first | exact h | cases h.1) (Or.inl ⟨by rfl, ?_⟩) (by assumption) ?_
  rotate_left
  ·intro wq hSw; (try dsimp only at hSw); go_simp; (try with_reducible rfl)
  (try simp only [Act.put, List.setIfInBounds_toArray, List.set_cons_zero, List.set_cons_succ])
  refine wpAnyH_take (i := 5) (oi := ⟨some 23, _, _, _, _, _⟩) (v := ?_) rfl (by kernel_rfl) (by kernel_rfl) (by kernel_rfl) (fun _ _ _ h => by first | exact h | cases h.1) (Or.inl ⟨by rfl, ?_⟩) (by assumption) ?_
  rotate_left
  ·intro wq hSw; (try dsimp only at hSw); go_simp; (try with_reducible rfl)
  (try simp only [Act.put, List.setIfInBounds_toArray, List.set_cons_zero, List.set_cons_succ])
  refine wpAnyH_take (i := 6) (oi := ⟨some 24, _, _, _, _, _⟩) (v := ?_) rfl (by kernel_rfl) (by kernel_rfl) (by kernel_rfl) (fun _ _ _ h => by first | exact h | cases h.1) (Or.inl ⟨by rfl, ?_⟩) (by assumption) ?_
  rotate_left
  ·intro wq hSw; (try dsimp only at hSw); go_simp; (try with_reducible rfl)
  (try simp only [Act.put, List.setIfInBounds_toArray, List.set_cons_zero, List.set_cons_succ])
  refine wpAnyH_take (i := 7) (oi := ⟨some 25, _, _, _, _, _⟩) (v := ?_) rfl (by kernel_rfl) (by kernel_rfl) (by kernel_rfl) (fun _ _ _ h => by first | exact h | cases h.1) (Or.inl ⟨by rfl, ?_⟩) (by assumption) ?_
  rotate_left
  ·intro wq hSw; (try dsimp only at hSw); go_simp; (try with_reducible rfl)
  (try simp only [Act.put, List.setIfInBounds_toArray, List.set_cons_zero, List.set_cons_succ])
  refine wpAnyH_take (i := 8) (oi := ⟨some 26, _, _, _, _, _⟩) (v := ?_) rfl (by kernel_rfl) (by kernel_rfl) (by kernel_rfl) (fun _ _ _ h => by first | exact h | cases h.1) (Or.inl ⟨by rfl, ?_⟩) (by assumption) ?_
  rotate_left
  ·intro wq hSw; (try dsimp only at hSw); go_simp; (try with_reducible rfl)
  (try simp only [Act.put, List.setIfInBounds_toArray, List.set_cons_zero, List.set_cons_succ])
  refine wpAnyH_take (i := 9) (oi := ⟨some 27, _, _, _, _, _⟩) (v := ?_) rfl (by kernel_rfl) (by kernel_rfl) (by kernel_rfl) (fun _ _ _ h => by first | exact h | cases h.1) (Or.inl ⟨by rfl, ?_⟩) (by assumption) ?_
  rotate_left
  ·intro wq hSw; (try dsimp only at hSw); go_simp; (try with_reducible rfl)
  (try simp only [Act.put, List.setIfInBounds_toArray, List.set_cons_zero, List.set_cons_succ])
  refine wpAnyH_take (i := 10) (oi := ⟨some 28, _, _, _, _, _⟩) (v := ?_) rfl (by kernel_rfl) (by kernel_rfl) (by kernel_rfl) (fun _ _ _ h => by first | exact h | cases h.1) (Or.inl ⟨by rfl, ?_⟩) (by assumption) ?_
  rotate_left
  ·intro wq hSw; (try dsimp only at hSw); go_simp; (try with_reducible rfl)
  (try simp only [Act.put, List.setIfInBounds_toArray, List.set_cons_zero, List.set_cons_succ])
  refine wpAnyH_take (i := 11) (oi := ⟨some 29, _, _, _, _, _⟩) (v := ?_) rfl (by kernel_rfl) (by kernel_rfl) (by kernel_rfl) (fun _ _ _ h => by first | exact h | cases h.1) (Or.inl ⟨by rfl, ?_⟩) (by assumption) ?_
  rotate_left
  ·intro wq hSw; (try dsimp only at hSw); go_simp; (try with_reducible rfl)
  (try simp only [Act.put, List.setIfInBounds_toArray, List.set_cons_zero, List.set_cons_succ])
  refine wpAnyH_ready (rs := [12]) (by kernel_rfl) (by simp) ?_
  refine AllReadyH.cons (o := ⟨none, _, _, _, _, _⟩) rfl (fun K hK => ?_) AllReadyH.nil
  have y0 := y.c0
  have y1 := y.c1
  have y2 := y.c2
  have y3 := y.c3
  have y4 := y.c4
  have z0 := y.f 0
  have z1 := y.f 1
  have z2 := y.f 2
  have z3 := y.f 3
  have z4 := y.f 4
  go_simp
  refine hK.out _ _ ?_ ?_
  ·(try dsimp only); exact hS.out _ ((Only.drewN _ _ _).trans (tok_only _ _ _ _ _ _ _))
  clear hK K hHeld; intro hHeld
  (try simp only [Act.put, List.setIfInBounds_toArray, List.set_cons_zero, List.set_cons_succ])
  refine wpAnyH_done (by kernel_rfl) ?_ _
  go_wp2
  refine bodyPost_ret (results_cell_row rfl _ _ w.heap.size 119 _ (0, 0) _ rfl (tb_fin (show TB (wb.drewN (nq + 1)) w.heap.size _ _ _ _ _ from y) (.int .i64 x.d.kind) (.string x.d.text) (.bool false) (.slice x.ad x.len x.cap) (.int .i64 x.d.at')) Tryz.underlying119 rfl (by kernel_rfl)) rfl ?_
  exact ⟨by rw [htv.out]; rfl, b0.out.trans (((Only.drewN _ _ _).trans (tok_only _ _ _ _ _ _ _)).below (Nat.le_refl _))⟩
 ·have hle : decide ((vn : Int) ≤ (p : Int) + (k : Int)) = true := by
   rw [decide_eq_true_eq]
   omega
  have htv : Hid (tkV xs (p + k) = .agg #[.int .i64 0, .string ⟨#[]⟩, .bool false, .slice none 0 0, .int .i64 0]) := hide (by unfold tkV; rw [List.getElem?_eq_none (by omega)])
  go_quiet (fail)
  have y0 := y.c0
  have y1 := y.c1
  have y2 := y.c2
  have y3 := y.c3
  have y4 := y.c4
  have z0 := y.f 0
  have z1 := y.f 1
  have z2 := y.f 2
  have z3 := y.f 3
  have z4 := y.f 4
  go_wp2
  refine bodyPost_ret (results_cell_row rfl _ _ w.heap.size 119 _ (0, 0) _ rfl (tb_fin (show TB (wb.drewN nq) w.heap.size _ _ _ _ _ from y) (.int .i64 0) (.string ⟨#[]⟩) (.bool false) (.slice none 0 0) (.int .i64 0)) Tryz.underlying119 rfl (by kernel_rfl)) rfl ?_
  exact ⟨by rw [htv.out], b0.out.trans (((Only.drewN _ _ _).trans (tok_only _ _ _ _ _ _ _)).below (Nat.le_refl _))⟩
end Sx
end Go.Proofs.YtgpaajolcpgeaaaGreatDoor

namespace Go.Proofs.YtgpaajolcpgeaaaGreatDoor
open Go.RowKit
namespace Sx

/-- the words that are left -/
def rem (xs : List TM) (p : Nat) : List TD := (xs.drop p).map TM.d
theorem rem_tail (xs : List TM) (p : Nat) : (rem xs p).tail = rem xs (p + 1) := by
 unfold rem
 rw [← List.map_tail, List.tail_drop]
theorem rem_cons {xs : List TM} {p : Nat} (h : p < xs.length) : rem xs p = (xs[p]).d :: rem xs (p + 1) := by
 unfold rem
 rw [List.drop_eq_getElem_cons h, List.map_cons]
theorem rem_nil {xs : List TM} {p : Nat} (h : xs.length ≤ p) : rem xs p = [] := by
 unfold rem
 rw [List.drop_eq_nil_of_le h, List.map_nil]
theorem tkV_is (xs : List TM) (p : Nat) : ∃ kd tx ad ln cp at', tkV xs p = .agg #[.int .i64 kd, .string tx, .bool false, .slice ad ln cp, .int .i64 at'] ∧ kd = hk (rem xs p) ∧ tx = hd (rem xs p) ∧ ∀ h : p < xs.length, ad = (xs[p]).ad ∧ ln = (xs[p]).len ∧ cp = (xs[p]).cap ∧ at' = ((xs[p]).d.at' : Int) := by
 by_cases h : p < xs.length
 ·refine ⟨(xs[p]).d.kind, (xs[p]).d.text, (xs[p]).ad, (xs[p]).len, (xs[p]).cap, (xs[p]).d.at', ?_, ?_, ?_, fun _ => ⟨rfl, rfl, rfl, rfl⟩⟩
  ·unfold tkV
   rw [List.getElem?_eq_getElem h]
   rfl
  ·rw [rem_cons h]
   rfl
  ·rw [rem_cons h]
   rfl
 ·refine ⟨0, ⟨#[]⟩, none, 0, 0, 0, ?_, ?_, ?_, fun h2 => absurd h2 h⟩
  ·unfold tkV
   rw [List.getElem?_eq_none (by omega)]
  ·rw [rem_nil (by omega)]
   rfl
  ·rw [rem_nil (by omega)]
   rfl
theorem gbb {w w1 w2 : World} {m : Nat} (h : w.grownBy w1 (some m)) (k : w1.grownBy w2 (some m)) : w.grownBy w2 (some m) :=
 ⟨k.os.trans h.os, k.tape.trans h.tape, k.output.trans h.output, Nat.le_trans h.size k.size, fun i hi hn => (k.block i (Nat.lt_of_lt_of_le hi h.size) hn).trans (h.block i hi hn)⟩
theorem gb_of {w w' : World} {m : Nat} (h : Below w.heap.size w w') : w.grownBy w' (some m) := ⟨h.os, h.tape, h.output, h.size, fun i hi _ => h.block i hi⟩
theorem gb_set4 (w : World) (b i : Nat) (v : Value) : w.grownBy (w.setCell ⟨b, i, none⟩ v) (some b) := ⟨rfl, rfl, rfl, by simp [World.setCell], fun k _ hk => Below.heap_setCell _ _ _ _ (fun e => hk (by rw [e]))⟩
/-- one word further -/
theorem RS.step {F : Nat → Prop} {w : World} {br : Nat} {va : Option Addr} {vn vc e : Nat} {xs : List TM} {p : Nat} (h : RS F w br va vn vc e xs p) (hp : p < xs.length) : RS F (w.setCell ⟨br, 1, none⟩ (.int .i64 ((p + 1 : Nat) : Int))) br va vn vc e xs (p + 1) :=
 { h with
  b := heap_setCell_same w br 1 _ _ _ h.b
  ws := h.ws.kf (Kf.of_grown (gb_set4 w br 1 _) h.nf)
  wo := h.wo.kept ((gb_set4 w br 1 _).block _ h.wo.lt fun e => h.ng (Option.some.inj e))
  pl := hp }
theorem hd_ne {xs : List TM} {p : Nat} {s : ByteArray} (hs : s ≠ ⟨#[]⟩) (h : hd (rem xs p) = s) : p < xs.length := by
 by_cases hp : p < xs.length
 ·exact hp
 ·rw [rem_nil (by omega)] at h
  exact absurd h.symm hs
theorem fd0 (kd : Int) (tx : ByteArray) (ad : Option Addr) (ln cp : Nat) (at' : Int) (w : World) : (Instr.field 119 (.agg #[.int .i64 kd, .string tx, .bool false, .slice ad ln cp, .int .i64 at']) 0).run Tryz.prog w = .ok (.int .i64 kd) w := by kernel_rfl
theorem fd1 (kd : Int) (tx : ByteArray) (ad : Option Addr) (ln cp : Nat) (at' : Int) (w : World) : (Instr.field 119 (.agg #[.int .i64 kd, .string tx, .bool false, .slice ad ln cp, .int .i64 at']) 1).run Tryz.prog w = .ok (.string tx) w := by kernel_rfl
theorem fd2 (kd : Int) (tx : ByteArray) (ad : Option Addr) (ln cp : Nat) (at' : Int) (w : World) : (Instr.field 119 (.agg #[.int .i64 kd, .string tx, .bool false, .slice ad ln cp, .int .i64 at']) 2).run Tryz.prog w = .ok (.agg #[.bool false, .slice ad ln cp]) w := by kernel_rfl
/-- what passes answers -/
def PsP (F : Nat → Prop) (w : World) (br : Nat) (va : Option Addr) (vn vc e : Nat) (xs : List TM) (p : Nat) (s : ByteArray) (en : Ending) (w' : World) : Prop :=
 w.grownBy w' (some br) ∧ ((hd (rem xs p) = s ∧ en = .returned (.bool true) ∧ RS F w' br va vn vc e xs (p + 1)) ∨ (hd (rem xs p) ≠ s ∧ en = .returned (.bool false) ∧ RS F w' br va vn vc e xs p))
set_option maxRecDepth 100000 in
set_option maxHeartbeats 3200000 in
theorem passes_n {F : Nat → Prop} {w : World} {br : Nat} {va : Option Addr} {vn vc e : Nat} {xs : List TM} {p : Nat} (h : RS F w br va vn vc e xs p) {s : ByteArray} (hs : s ≠ ⟨#[]⟩) :
  Calls Tryz.prog 111 #[.pointer (some ⟨br, 0, none⟩), .string s] w fun en w' => PsP F w br va vn vc e xs p s en w' := by
 have hnx := hide (next_n h 0 (by decide))
 obtain ⟨kd, tx, ad, ln, cp, at', e1, -, e2, -⟩ := tkV_is xs p
 rw [Nat.add_zero, e1] at hnx
 replace e2 := hide e2
 clear e1
 replace h := hide h
 go_enter Tryz.func111, Tryz.ntmps111
 go_wp2_with fail
 refine hnx.out.mono ?_
 rintro en w1 ⟨rfl, k1⟩
 have h1 := h.out.below k1
 have c1 := h1.c1
 have f1 := h1.f 1
 replace h1 := hide h1
 clear hnx
 have hfd := fd1 kd tx ad ln cp at'
 by_cases ht : tx = s
 ·have hp := hd_ne hs (e2.out ▸ ht)
  have hl := h.out.nl
  have hn := h.out.ws.n
  have hw : IntKind.i64.wrap ((p : Int) + 1) = ((p + 1 : Nat) : Int) := by
   rw [IntKind.wrap_i64]
   omega
  have hfin := hide (h1.out.step hp)
  have hg := hide (gbb (gb_of k1) (gb_set4 w1 br 1 (.int .i64 ((p + 1 : Nat) : Int))))
  clear h1 k1 hp hl hn
  subst ht
  go_wp2
  refine bodyPost_ret (results_tmp rfl _ _ _) rfl ?_
  exact ⟨hg.out, .inl ⟨e2.out.symm, rfl, hfin.out⟩⟩
 ·have hg := hide (gb_of (m := br) k1)
  have hb : (tx.toList == s.toList) = false := by
   rw [Bool.eq_false_iff]
   exact fun e => ht (toList_iff.1 e)
  go_wp2
  refine bodyPost_ret (results_tmp rfl _ _ _) rfl ?_
  exact ⟨hg.out, .inr ⟨fun e => ht (e2.out.trans e), rfl, h1.out⟩⟩
theorem wd_ne {k : Nat} (h3 : 3 ≤ k) (h : k ≤ 22) : wd k ≠ ⟨#[]⟩ := by
 have : ∀ k : Fin 23, 3 ≤ k.1 → (wd k.1 == ⟨#[]⟩) = false := by decide
 intro e
 have h2 := this ⟨k, by omega⟩ h3
 rw [e] at h2
 exact absurd h2 (by decide)
theorem amo_step {a n : Nat} {s : ByteArray} : amo a (n + 1) s = if s = wd a then a else amo (a + 1) n s := rfl
/-- what kindAmong answers -/
def KaP (F : Nat → Prop) (w : World) (br : Nat) (va : Option Addr) (vn vc e : Nat) (xs : List TM) (p k : Nat) (en : Ending) (w' : World) : Prop :=
 w.grownBy w' (some br) ∧ en = .returned (.int .i64 k) ∧ RS F w' br va vn vc e xs (if k = 0 then p else p + 1) ∧ (k ≠ 0 → p < xs.length)
set_option maxRecDepth 100000 in
set_option maxHeartbeats 3200000 in
theorem among_n {F : Nat → Prop} {w : World} {br : Nat} {va : Option Addr} {vn vc e : Nat} {xs : List TM} {p : Nat} (h : RS F w br va vn vc e xs p) {a n : Nat} (h3 : 3 ≤ a) (hn0 : a + n ≤ 22) :
  Calls Tryz.prog 190 #[.pointer (some ⟨br, 0, none⟩), .int .i64 a, .int .i64 ((a + n : Nat) : Int)] w fun en w' => KaP F w br va vn vc e xs p (amo a (n + 1) (hd (rem xs p))) en w' := by
 replace h := hide h
 go_enter Tryz.func190, Tryz.ntmps190
 go_wp2_with fail
 go_loopw [7] (fun v wr => ∃ t : Nat, t ≤ n + 1 ∧ v = .int .i64 ((a + t : Nat) : Int) ∧ Hid (amo a (n + 1) (hd (rem xs p)) = amo (a + t) (n + 1 - t) (hd (rem xs p))) ∧ Hid (RS F wr br va vn vc e xs p) ∧ Hid (w.grownBy wr (some br))) (fun v _ => a + n + 1 - (intOf v).toNat)
 case atStart => exact ⟨0, Nat.zero_le _, by simp, hide rfl, h, hide (gb_of (Below.refl _ _))⟩
 case round =>
  obtain ⟨t, ht, rfl, hq, hr, hg⟩ := hrel
  by_cases htn : t < n + 1
  ·have hle : decide (((a + t : Nat) : Int) ≤ ((a + n : Nat) : Int)) = true := by
    rw [decide_eq_true_eq]
    omega
   have cw := hr.out.wo.cell (k := a + t) (by omega)
   have hps := hide (passes_n hr.out (wd_ne (k := a + t) (by omega) (by omega)))
   have hnt : n + 1 - t = (n - t) + 1 := by omega
   rw [hnt] at hq
   have hwr : IntKind.i64.wrap (((a + t : Nat) : Int) + 1) = ((a + (t + 1) : Nat) : Int) := by
    rw [IntKind.wrap_i64]
    omega
   go_wp2_with fail
   refine hps.out.mono ?_
   rintro en w1 ⟨g1, ⟨he, rfl, hr1⟩ | ⟨he, rfl, hr1⟩⟩
   ·have hres : Hid (amo a (n + 1) (hd (rem xs p)) = a + t) := hide (hq.out.trans (by rw [amo_step, if_pos he]))
    have hlt := hide (hd_ne (wd_ne (k := a + t) (by omega) (by omega)) he)
    have hg2 := hide (gbb hg.out g1)
    replace hr1 := hide hr1
    clear hps g1 he cw
    go_wp2
    refine bodyPost_ret (results_tmp rfl _ _ _) rfl ?_
    rw [hres.out]
    exact ⟨hg2.out, rfl, by rw [if_neg (by omega)]; exact hr1.out, fun _ => hlt.out⟩
   ·have hq2 : Hid (amo a (n + 1) (hd (rem xs p)) = amo (a + (t + 1)) (n + 1 - (t + 1)) (hd (rem xs p))) := hide (hq.out.trans (by rw [amo_step, if_neg he, show n + 1 - (t + 1) = n - t by omega]; rfl))
    have hg2 := hide (gbb hg.out g1)
    replace hr1 := hide hr1
    clear hps g1 he cw hq hr hg
    go_wp2
    exact ⟨⟨_, _, _, _, _, _, _, _, _, _, _, _, _, ⟨t + 1, by omega, rfl, hq2, hr1, hg2⟩, rfl⟩, by simp [intOf]; omega⟩
  ·obtain rfl : t = n + 1 := by omega
   have hle : decide (((a + (n + 1) : Nat) : Int) ≤ ((a + n : Nat) : Int)) = false := by
    rw [decide_eq_false_iff_not]
    omega
   have hres : Hid (amo a (n + 1) (hd (rem xs p)) = 0) := hide (hq.out.trans (by rw [Nat.sub_self]; rfl))
   go_wp2
   refine bodyPost_ret (results_tmp rfl _ _ _) rfl ?_
   rw [hres.out]
   exact ⟨hg.out, rfl, hr.out, fun h => absurd rfl h⟩
end Sx
end Go.Proofs.YtgpaajolcpgeaaaGreatDoor

namespace Go.Proofs.YtgpaajolcpgeaaaGreatDoor
open Go.RowKit
namespace Sx

/-- reading is given up -/
def Pan (c : Int × Nat) (en : Ending) : Prop := en = .panicked [{ v := .iface 31 (.agg #[.int .i64 c.1, .int .i64 c.2]), recovered := false }]
set_option maxRecDepth 100000 in
set_option maxHeartbeats 3200000 in
theorem giveUp_n {F : Nat → Prop} {w : World} {br : Nat} {va : Option Addr} {vn vc e : Nat} {xs : List TM} {p : Nat} (h : RS F w br va vn vc e xs p) :
  Calls Tryz.prog 67 #[.pointer (some ⟨br, 0, none⟩)] w fun en w' => Pan (bad e (rem xs p)) en ∧ Below w.heap.size w w' := by
 have hn := h.ws.n
 have hpl := h.pl
 have hnl := h.nl
 have c0 := h.c0
 have c1 := h.c1
 have c2 := h.c2
 go_enter Tryz.func67, Tryz.ntmps67
 by_cases hlt : p = xs.length
 ·have hb : Hid (bad e (rem xs p) = (42, e)) := hide (by rw [rem_nil (by omega)]; rfl)
  have hle : ((p : Int) == (vn : Int)) = true := by simp; omega
  go_wp2_with fail
  go_quiet (fail)
  go_wp2
  refine ⟨rfl, ?_, grow_drewN (Below.refl _ _) _⟩
  rw [hb.out]
  rfl
 ·have hle : ((p : Int) == (vn : Int)) = false := by simp; omega
  have hlt2 : p < xs.length := by omega
  obtain ⟨g, rfl, hg, hgl, hc⟩ : ∃ g, va = some ⟨g, 0, none⟩ ∧ F g ∧ g < w.heap.size ∧ ∀ i (h : i < xs.length) j, j < 5 → w.cell? ⟨g, i * 5 + j, none⟩ = (V5 xs[i])[j]? := by
   rcases h.ws.row with h0 | h0
   ·omega
   ·exact h0
  have e4 : w.cell? ⟨g, p * 5 + 4, none⟩ = some (.int .i64 (xs[p]).d.at') := hc p hlt2 4 (by decide)
  have hb : Hid (bad e (rem xs p) = (41, (xs[p]).d.at')) := hide (by rw [rem_cons hlt2]; rfl)
  generalize (xs[p]).d.at' = q at *
  have hi1 : (p : Int) < (vn : Int) := by omega
  clear hc h
  go_wp2_with fail
  go_quiet (fail)
  go_wp2_with fail
  refine wp_region_held_drew (S := (fun w' => w'.cell? ⟨br, 0, none⟩ = some (.slice (some ⟨g, 0, none⟩) vn vc) ∧ w'.cell? ⟨br, 1, none⟩ = some (.int .i64 p) ∧ w'.cell? ⟨g, p * 5 + 4, none⟩ = some (.int .i64 q))) (by kernel_rfl) (by exact ⟨c0, c1, e4⟩) (fun hHeld => ?_)
  show wpAnyH _ _ _ _ _ 14 _ _ _
  refine wpAnyH_take (i := 0) (oi := ⟨some 18, _, _, _, _, _⟩) (v := ?_) rfl (by kernel_rfl) (by kernel_rfl) (by kernel_rfl) (fun _ _ _ h => by first | exact h | cases h.1) (Or.inl ⟨by rfl, ?_⟩) (by assumption) ?_
  rotate_left
  ·intro wq hSw; (try dsimp only at hSw); go_simp; (try with_reducible rfl)
  (try simp only [Act.put, List.setIfInBounds_toArray, List.set_cons_zero, List.set_cons_succ])
  refine wpAnyH_take (i := 1) (oi := ⟨some 19, _, _, _, _, _⟩) (v := ?_) rfl (by kernel_rfl) (by kernel_rfl) (by kernel_rfl) (fun _ _ _ h => by first | exact h | cases h.1) (Or.inl ⟨by rfl, ?_⟩) (by assumption) ?_
  rotate_left
  ·intro wq hSw; (try dsimp only at hSw); go_simp; (try with_reducible rfl)
  (try simp only [Act.put, List.setIfInBounds_toArray, List.set_cons_zero, List.set_cons_succ])
  refine wpAnyH_take (i := 2) (oi := ⟨some 20, _, _, _, _, _⟩) (v := ?_) rfl (by kernel_rfl) (by kernel_rfl) (by kernel_rfl) (fun _ _ _ h => by first | exact h | cases h.1) (Or.inl ⟨by rfl, ?_⟩) (by assumption) ?_
  rotate_left
  ·intro wq hSw; (try dsimp only at hSw); go_simp; (try with_reducible rfl)
  (try simp only [Act.put, List.setIfInBounds_toArray, List.set_cons_zero, List.set_cons_succ])
  refine wpAnyH_take (i := 3) (oi := ⟨some 21, _, _, _, _, _⟩) (v := ?_) rfl (by kernel_rfl) (by kernel_rfl) (by kernel_rfl) (fun _ _ _ h => by first | exact h | cases h.1) (Or.inl ⟨by rfl, ?_⟩) (by assumption) ?_
  rotate_left
  ·intro wq hSw; (try dsimp only at hSw); go_simp; (try with_reducible rfl)
  (try simp only [Act.put, List.setIfInBounds_toArray, List.set_cons_zero, List.set_cons_succ])
  refine wpAnyH_take (i := 4) (oi := ⟨some 22, _, _, _, _, _⟩) (v := ?_) rfl (by kernel_rfl) (by kernel_rfl) (by kernel_rfl) (fun _ _ _ h => by first | exact h | cases h.1) (Or.inl ⟨by rfl, ?_⟩) (by assumption) ?_
  rotate_left
  ·intro wq hSw; (try dsimp only at hSw); go_simp; (try with_reducible rfl)
  (try simp only [Act.put, List.setIfInBounds_toArray, List.set_cons_zero, List.set_cons_succ])
  refine wpAnyH_take (i := 5) (oi := ⟨some 23, _, _, _, _, _⟩) (v := ?_) rfl (by kernel_rfl) (by kernel_rfl) (by kernel_rfl) (fun _ _ _ h => by first | exact h | cases h.1) (Or.inl ⟨by rfl, ?_⟩) (by assumption) ?_
  rotate_left
  ·intro wq hSw; (try dsimp only at hSw); go_simp; (try with_reducible rfl)
  (try simp only [Act.put, List.setIfInBounds_toArray, List.set_cons_zero, List.set_cons_succ])
  refine wpAnyH_take (i := 6) (oi := ⟨some 24, _, _, _, _, _⟩) (v := ?_) rfl (by kernel_rfl) (by kernel_rfl) (by kernel_rfl) (fun _ _ _ h => by first | exact h | cases h.1) (Or.inl ⟨by rfl, ?_⟩) (by assumption) ?_
  rotate_left
  ·intro wq hSw; (try dsimp only at hSw); go_simp; (try with_reducible rfl)
  (try simp only [Act.put, List.setIfInBounds_toArray, List.set_cons_zero, List.set_cons_succ])
  refine wpAnyH_take (i := 7) (oi := ⟨some 25, _, _, _, _, _⟩) (v := ?_) rfl (by kernel_rfl) (by kernel_rfl) (by kernel_rfl) (fun _ _ _ h => by first | exact h | cases h.1) (Or.inl ⟨by rfl, ?_⟩) (by assumption) ?_
  rotate_left
  ·intro wq hSw; (try dsimp only at hSw); go_simp; (try with_reducible rfl)
  (try simp only [Act.put, List.setIfInBounds_toArray, List.set_cons_zero, List.set_cons_succ])
  refine wpAnyH_take (i := 8) (oi := ⟨some 26, _, _, _, _, _⟩) (v := ?_) rfl (by kernel_rfl) (by kernel_rfl) (by kernel_rfl) (fun _ _ _ h => by first | exact h | cases h.1) (Or.inl ⟨by rfl, ?_⟩) (by assumption) ?_
  rotate_left
  ·intro wq hSw; (try dsimp only at hSw); go_simp; (try with_reducible rfl)
  (try simp only [Act.put, List.setIfInBounds_toArray, List.set_cons_zero, List.set_cons_succ])
  refine wpAnyH_take (i := 9) (oi := ⟨some 27, _, _, _, _, _⟩) (v := ?_) rfl (by kernel_rfl) (by kernel_rfl) (by kernel_rfl) (fun _ _ _ h => by first | exact h | cases h.1) (Or.inl ⟨by rfl, ?_⟩) (by assumption) ?_
  rotate_left
  ·intro wq hSw; (try dsimp only at hSw); go_simp; (try with_reducible rfl)
  (try simp only [Act.put, List.setIfInBounds_toArray, List.set_cons_zero, List.set_cons_succ])
  refine wpAnyH_take (i := 10) (oi := ⟨some 28, _, _, _, _, _⟩) (v := ?_) rfl (by kernel_rfl) (by kernel_rfl) (by kernel_rfl) (fun _ _ _ h => by first | exact h | cases h.1) (Or.inl ⟨by rfl, ?_⟩) (by assumption) ?_
  rotate_left
  ·intro wq hSw; (try dsimp only at hSw); go_simp; (try with_reducible rfl)
  (try simp only [Act.put, List.setIfInBounds_toArray, List.set_cons_zero, List.set_cons_succ])
  refine wpAnyH_take (i := 11) (oi := ⟨some 29, _, _, _, _, _⟩) (v := ?_) rfl (by kernel_rfl) (by kernel_rfl) (by kernel_rfl) (fun _ _ _ h => by first | exact h | cases h.1) (Or.inl ⟨by rfl, ?_⟩) (by assumption) ?_
  rotate_left
  ·intro wq hSw; (try dsimp only at hSw); go_simp; (try with_reducible rfl)
  (try simp only [Act.put, List.setIfInBounds_toArray, List.set_cons_zero, List.set_cons_succ])
  refine wpAnyH_take (i := 12) (oi := ⟨some 30, _, _, _, _, _⟩) (v := ?_) rfl (by kernel_rfl) (by kernel_rfl) (by kernel_rfl) (fun _ _ _ h => by first | exact h | cases h.1) (Or.inl ⟨by rfl, ?_⟩) (by assumption) ?_
  rotate_left
  ·intro wq hSw; (try dsimp only at hSw); go_simp; (try with_reducible rfl)
  (try simp only [Act.put, List.setIfInBounds_toArray, List.set_cons_zero, List.set_cons_succ])
  refine wpAnyH_ready (rs := [13]) (by kernel_rfl) (by simp) ?_
  refine AllReadyH.cons (o := ⟨none, _, _, _, _, _⟩) rfl (fun K hK => ?_) AllReadyH.nil
  go_simp
  refine ⟨rfl, ?_, grow_drewN (Below.refl _ _) _⟩
  rw [hb.out]
  rfl
/-- what must answers -/
def MuP (F : Nat → Prop) (w : World) (br : Nat) (va : Option Addr) (vn vc e : Nat) (xs : List TM) (p : Nat) (s : ByteArray) (en : Ending) (w' : World) : Prop :=
 w.grownBy w' (some br) ∧ ((hd (rem xs p) = s ∧ p < xs.length ∧ en = .returned (.tuple #[]) ∧ RS F w' br va vn vc e xs (p + 1)) ∨ (hd (rem xs p) ≠ s ∧ Pan (bad e (rem xs p)) en))
set_option maxRecDepth 100000 in
set_option maxHeartbeats 3200000 in
theorem must_n {F : Nat → Prop} {w : World} {br : Nat} {va : Option Addr} {vn vc e : Nat} {xs : List TM} {p : Nat} (h : RS F w br va vn vc e xs p) {s : ByteArray} (hs : s ≠ ⟨#[]⟩) :
  Calls Tryz.prog 192 #[.pointer (some ⟨br, 0, none⟩), .string s] w fun en w' => MuP F w br va vn vc e xs p s en w' := by
 have hps := hide (passes_n h hs)
 go_enter Tryz.func192, Tryz.ntmps192
 go_wp2_with fail
 refine hps.out.mono ?_
 rintro en w1 ⟨g1, ⟨he, rfl, hr1⟩ | ⟨he, rfl, hr1⟩⟩
 ·have hlt := hide (hd_ne hs he)
  replace g1 := hide g1
  replace hr1 := hide hr1
  replace he := hide he
  clear hps h
  go_wp2
  refine bodyPost_ret (results_none rfl _ _ _) rfl ?_
  exact ⟨g1.out, .inl ⟨he.out, hlt.out, rfl, hr1.out⟩⟩
 ·have hgu := hide (giveUp_n hr1)
  replace g1 := hide g1
  replace he := hide he
  clear hps h hr1
  go_wp2_with fail
  refine hgu.out.mono ?_
  rintro en w2 ⟨hp, k2⟩
  have hg2 := hide (gbb g1.out (gb_of k2))
  unfold Pan at hp
  subst hp
  exact ⟨rfl, hg2.out, .inr ⟨he.out, rfl⟩⟩
theorem RS.to {F : Nat → Prop} {w wf : World} {br : Nat} {va : Option Addr} {vn vc e : Nat} {xs : List TM} {p q : Nat} (h : RS F w br va vn vc e xs p) (g : w.grownBy wf (some br)) (hb : wf.heap[br]? = some (.cells #[.slice va vn vc, .int .i64 q, .int .i64 e] 122 (0, 0))) (hq : q ≤ xs.length) : RS F wf br va vn vc e xs q :=
 { h with b := hb, ws := h.ws.kf (Kf.of_grown g h.nf), wo := h.wo.kept (g.block _ h.wo.lt fun e => h.ng (Option.some.inj e)), pl := hq }
theorem gb_only {w w1 w2 : World} {m r : Nat} (h : w.grownBy w1 (some m)) (o : Only r w1 w2) (hr : w.heap.size ≤ r) : w.grownBy w2 (some m) :=
 ⟨o.os.trans h.os, o.tape.trans h.tape, o.output.trans h.output, by rw [o.size]; exact h.size, fun i hi hn => (o.block i (by omega)).trans (h.block i hi hn)⟩
/-- what take answers: the next word, which has to be of a kind -/
def TaP (F : Nat → Prop) (w : World) (br : Nat) (va : Option Addr) (vn vc e : Nat) (xs : List TM) (p : Nat) (k : Int) (en : Ending) (w' : World) : Prop :=
 w.grownBy w' (some br) ∧ ((∃ h : p < xs.length, (xs[p]).d.kind = k ∧ en = .returned (tokV xs[p]) ∧ RS F w' br va vn vc e xs (p + 1)) ∨ (hk (rem xs p) ≠ k ∧ Pan (bad e (rem xs p)) en))
set_option maxRecDepth 100000 in
set_option maxHeartbeats 3200000 in
theorem take_n {F : Nat → Prop} {w : World} {br : Nat} {va : Option Addr} {vn vc e : Nat} {xs : List TM} {p : Nat} (h : RS F w br va vn vc e xs p) {k : Int} (hk0 : k ≠ 0) :
  Calls Tryz.prog 207 #[.pointer (some ⟨br, 0, none⟩), .int .i64 k] w fun en w' => TaP F w br va vn vc e xs p k en w' := by
 have b0 := below_alloc w (.cells #[.int .i64 0, .string ⟨#[]⟩, .bool false, .slice none 0 0, .int .i64 0] 119)
 have y : TB _ w.heap.size _ _ _ _ _ := heap_alloc_new w (.cells #[.int .i64 0, .string ⟨#[]⟩, .bool false, .slice none 0 0, .int .i64 0] 119)
 have hnx := hide (next_n (h.below b0) 0 (by decide))
 obtain ⟨kd, tx, ad, ln, cp, at', e1, e2, -, e3⟩ := tkV_is xs p
 rw [Nat.add_zero, e1] at hnx
 replace e1 := hide e1
 replace e2 := hide e2
 replace e3 := hide e3
 have hn := h.ws.n
 have hnl := h.nl
 have hpl := h.pl
 have hbr := h.lt
 have hO := hide h
 replace h := hide (h.below b0)
 go_enter Tryz.func207, Tryz.ntmps207
 go_wp2_with fail
 refine hnx.out.mono ?_
 rintro en w1 ⟨rfl, k1⟩
 clear hnx
 have h1 := h.out.below k1
 replace b0 := grow_step k1 b0
 have y1 := y.below k1
 have hrw : w.heap.size < w1.heap.size := y1.lt
 clear h y k1
 have b2 := below_alloc w1 (.cells #[.int .i64 kd, .string tx, .bool false, .slice ad ln cp, .int .i64 at'] 119)
 have h2 := hide (h1.below b2)
 have y2 := hide (y1.below b2)
 have x2 := hide (tb_new w1 (.int .i64 kd) (.string tx) (.bool false) (.slice ad ln cp) (.int .i64 at'))
 have hs1 : w1.heap.size < (w1.alloc (.cells #[.int .i64 kd, .string tx, .bool false, .slice ad ln cp, .int .i64 at'] 119)).heap.size := x2.out.lt
 replace b0 := hide (grow_step b2 b0)
 clear b2 h1 y1
 have x0 := x2.out.c0
 by_cases hkd : kd = k
 ·subst hkd
  have hp : p < xs.length := by
   by_cases hp : p < xs.length
   ·exact hp
   ·have := e2.out
    rw [rem_nil (by omega)] at this
    exact absurd this hk0
  have hw : IntKind.i64.wrap ((p : Int) + 1) = (p : Int) + 1 := by
   rw [IntKind.wrap_i64]
   omega
  have c1 := h2.out.c1
  have f1 := h2.out.f 1
  have h3 := hide (h2.out.step hp)
  have g2 := gb_set4 (w1.alloc (.cells #[.int .i64 kd, .string tx, .bool false, .slice ad ln cp, .int .i64 at'] 119)) br 1 (.int .i64 ((p : Int) + 1))
  have x3 : TB _ w1.heap.size _ _ _ _ _ := (g2.block w1.heap.size hs1 (by simp; omega)).trans x2.out
  have y3 : TB _ w.heap.size _ _ _ _ _ := (g2.block w.heap.size (by omega) (by simp; omega)).trans y2.out
  have hg3 := hide (gbb (gb_of b0.out) g2)
  have hes : Hid (tokV xs[p] = .agg #[.int .i64 kd, .string tx, .bool false, .slice ad ln cp, .int .i64 at'] ∧ (xs[p]).d.kind = kd) := hide (by
   have h5 := e1.out
   unfold tkV at h5
   rw [List.getElem?_eq_getElem hp] at h5
   have h6 := e2.out
   rw [rem_cons hp] at h6
   exact ⟨h5, h6.symm⟩)
  have q0 := x3.c0
  have q1 := x3.c1
  have q2 := x3.c2
  have q3 := x3.c3
  have q4 := x3.c4
  have r0 := y3.c0
  have r1 := y3.c1
  have r2 := y3.c2
  have r3 := y3.c3
  have r4 := y3.c4
  have z0 := y3.f 0
  have z1 := y3.f 1
  have z2 := y3.f 2
  have z3 := y3.f 3
  have z4 := y3.f 4
  have hfin := hide (tb_fin y3 (.int .i64 kd) (.string tx) (.bool false) (.slice ad ln cp) (.int .i64 at'))
  clear g2 x3 y3 y2 h2
  go_wp2
  refine bodyPost_ret (results_cell_row rfl _ _ w.heap.size 119 _ (0, 0) _ rfl hfin.out Tryz.underlying119 rfl (by kernel_rfl)) rfl ?_
  have ho := tok_only ((w1.alloc (.cells #[.int .i64 kd, .string tx, .bool false, .slice ad ln cp, .int .i64 at'] 119)).setCell ⟨br, 1, none⟩ (.int .i64 ((p : Int) + 1))) w.heap.size (.int .i64 kd) (.string tx) (.bool false) (.slice ad ln cp) (.int .i64 at')
  have hgf := gb_only hg3.out ho (Nat.le_refl _)
  exact ⟨hgf, .inl ⟨hp, hes.out.2, by rw [hes.out.1], hO.out.to hgf ((ho.block br (by omega)).trans h3.out.b) hp⟩⟩
 ·have hgu := hide (giveUp_n h2.out)
  have he2 := hide (fun e : hk (rem xs p) = k => hkd (e2.out.trans e))
  clear h2 y2 x2 e1 e2 e3
  go_wp2_with fail
  refine hgu.out.mono ?_
  rintro en w2 ⟨hp, k2⟩
  have hg2 := hide (gb_of (m := br) (grow_step k2 b0.out))
  unfold Pan at hp
  subst hp
  exact ⟨rfl, hg2.out, .inr ⟨he2.out, rfl⟩⟩
end Sx
end Go.Proofs.YtgpaajolcpgeaaaGreatDoor
