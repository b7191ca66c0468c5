/-
  Layer 3: a word's value; words that say no number, numbers.
-/
import Derived.Test.YtkgemeeadkfnhaaDoorX2
namespace Go.Proofs.YtkgemeeadkfnhaaDoor
open Go.RowKit

theorem results_ct' {P : Program} {fn : Func} {p1 t3 : Tmp} {ty : TypeId} (h : fn.results = #[.cell p1 ty, .tmp t3]) (tmps : Array Value) (w : World) (g1 : Nat) (t : TypeId) (cs1 : Array Value) (fr : Nat × Nat) (d : TypeDesc)
    (hp1 : tmps.getD p1 undef = .pointer (some ⟨g1, 0, none⟩)) (hg1 : w.heap[g1]? = some (.cells cs1 t fr))
    (hu : P.underlying ty = some d) (hd : (match d with | .struct _ | .array _ _ => true | _ => false) = true) (hi1 : (P.info? ty).map (·.size) = some cs1.size) :
    (results fn tmps).run P w = .ok (.tuple #[.agg cs1, tmps.getD t3 undef]) w := by
  have hp1' : tmps[p1]?.getD undef = .pointer (some ⟨g1, 0, none⟩) := by simpa using hp1
  simp [results, h, hp1', asAddr, run_loadVar_row w g1 t ty cs1 fr d hg1 hu hd hi1]

set_option maxRecDepth 100000 in
set_option maxHeartbeats 1600000 in
theorem plain_yes (k : Int) (s : ByteArray) (a : Nat) (w : World) (hk0 : 0 < k) (hs0 : 0 < s.size) :
    Calls Tryd.prog 32 #[.int .i64 k, .string s, .int .i64 a] w fun e w' => e = .returned (.tuple #[.agg #[.int .i64 k, .string s, .bool false, .slice none 0 0, .int .i64 a], .int .i64 0]) ∧ Below w.heap.size w w' := by
  have hne := ne_empty hs0
  have hk1 : (k == 0) = false := by rw [beq_eq_false_iff_ne]; omega
  go_enter Tryd.func32, Tryd.ntmps32
  go_wp2
  refine bodyPost_ret (results_ct' rfl _ _ w.heap.size 40 _ (0, 0) _ rfl (heap_alloc_new w _) Tryd.underlying40 rfl (by kernel_rfl)) rfl ?_
  exact ⟨by simp, below_alloc _ _⟩

set_option maxRecDepth 100000 in
set_option maxHeartbeats 1600000 in
theorem plain_no (k : Int) (s : ByteArray) (a : Nat) (w : World) (hk : k = 0 ∨ s.size = 0) :
    Calls Tryd.prog 32 #[.int .i64 k, .string s, .int .i64 a] w fun e w' => e = .returned (.tuple #[.agg #[.int .i64 0, .string ⟨#[]⟩, .bool false, .slice none 0 0, .int .i64 0], .int .i64 30]) ∧ Below w.heap.size w w' := by
  by_cases h0 : k = 0
  · subst h0
    go_enter Tryd.func32, Tryd.ntmps32
    go_wp2
    refine bodyPost_ret (results_ct' rfl _ _ w.heap.size 40 _ (0, 0) _ rfl (heap_alloc_new w _) Tryd.underlying40 rfl (by kernel_rfl)) rfl ?_
    exact ⟨by simp, below_alloc _ _⟩
  · have hne := is_empty (show s.size = 0 from by omega)
    have hk1 : (k == 0) = false := by rw [beq_eq_false_iff_ne]; omega
    clear hk
    go_enter Tryd.func32, Tryd.ntmps32
    go_wp2
    refine bodyPost_ret (results_ct' rfl _ _ w.heap.size 40 _ (0, 0) _ rfl (heap_alloc_new w _) Tryd.underlying40 rfl (by kernel_rfl)) rfl ?_
    exact ⟨by simp, below_alloc _ _⟩

/-- the block of a word -/
def TB (w : World) (b : Nat) (v0 v1 v2 v3 v4 : Value) : Prop := w.heap[b]? = some (.cells #[v0, v1, v2, v3, v4] 40 (0, 0))
theorem TB.c0 {w : World} {b : Nat} {v0 v1 v2 v3 v4 : Value} (h : TB w b v0 v1 v2 v3 v4) : w.cell? ⟨b, 0, none⟩ = some v0 := cell_of_row w b 0 _ _ (0, 0) h
theorem TB.c1 {w : World} {b : Nat} {v0 v1 v2 v3 v4 : Value} (h : TB w b v0 v1 v2 v3 v4) : w.cell? ⟨b, 1, none⟩ = some v1 := cell_of_row w b 1 _ _ (0, 0) h
theorem TB.c2 {w : World} {b : Nat} {v0 v1 v2 v3 v4 : Value} (h : TB w b v0 v1 v2 v3 v4) : w.cell? ⟨b, 2, none⟩ = some v2 := cell_of_row w b 2 _ _ (0, 0) h
theorem TB.c3 {w : World} {b : Nat} {v0 v1 v2 v3 v4 : Value} (h : TB w b v0 v1 v2 v3 v4) : w.cell? ⟨b, 3, none⟩ = some v3 := cell_of_row w b 3 _ _ (0, 0) h
theorem TB.c4 {w : World} {b : Nat} {v0 v1 v2 v3 v4 : Value} (h : TB w b v0 v1 v2 v3 v4) : w.cell? ⟨b, 4, none⟩ = some v4 := cell_of_row w b 4 _ _ (0, 0) h
theorem TB.f {w : World} {b : Nat} {v0 v1 v2 v3 v4 : Value} (h : TB w b v0 v1 v2 v3 v4) (i : Nat) : w.frozen? ⟨b, i, none⟩ = false := frozen_of_row w b i _ _ h
theorem TB.lt {w : World} {b : Nat} {v0 v1 v2 v3 v4 : Value} (h : TB w b v0 v1 v2 v3 v4) : b < w.heap.size := by
  by_cases hb : b < w.heap.size
  · exact hb
  · rw [TB, Array.getElem?_eq_none (by omega)] at h; cases h
theorem TB.below {w w' : World} {b : Nat} {v0 v1 v2 v3 v4 : Value} (h : TB w b v0 v1 v2 v3 v4) (hb : Below w.heap.size w w') : TB w' b v0 v1 v2 v3 v4 := (hb.block b h.lt).trans h
theorem tb_new (w : World) (v0 v1 v2 v3 v4 : Value) : TB (w.alloc (.cells #[v0, v1, v2, v3, v4] 40)) w.heap.size v0 v1 v2 v3 v4 := heap_alloc_new w _
/-- a whole word is stored -/
def tokSet (w : World) (b : Nat) (u0 u1 u2 u3 u4 : Value) : World := ((((w.setCell ⟨b, 0, none⟩ u0).setCell ⟨b, 1, none⟩ u1).setCell ⟨b, 2, none⟩ u2).setCell ⟨b, 3, none⟩ u3).setCell ⟨b, 4, none⟩ u4
theorem tb_fin {w : World} {b : Nat} {v0 v1 v2 v3 v4 : Value} (h : TB w b v0 v1 v2 v3 v4) (u0 u1 u2 u3 u4 : Value) : TB (tokSet w b u0 u1 u2 u3 u4) b u0 u1 u2 u3 u4 := by
  have y0 := heap_setCell_same w b 0 _ 40 u0 h
  have y1 := heap_setCell_same _ b 1 _ 40 u1 y0
  have y2 := heap_setCell_same _ b 2 _ 40 u2 y1
  have y3 := heap_setCell_same _ b 3 _ 40 u3 y2
  have y4 := heap_setCell_same _ b 4 _ 40 u4 y3
  unfold TB tokSet
  simpa using y4
theorem tok_only (w : World) (b : Nat) (u0 u1 u2 u3 u4 : Value) : Only b w (tokSet w b u0 u1 u2 u3 u4) :=
  ((((Only.set b 0 w u0).trans (Only.set b 1 _ u1)).trans (Only.set b 2 _ u2)).trans (Only.set b 3 _ u3)).trans (Only.set b 4 _ u4)

set_option maxRecDepth 100000 in
set_option maxHeartbeats 1600000 in
theorem number_no (s : ByteArray) (a : Nat) (w : World) (hok : ¬ okText s) (hs : s.size ≤ 1099511627776) :
    Calls Tryd.prog 31 #[.string s, .int .i64 a] w fun e w' => e = .returned (.tuple #[.agg #[.int .i64 0, .string ⟨#[]⟩, .bool false, .slice none 0 0, .int .i64 0], .int .i64 12]) ∧ Below w.heap.size w w' := by
  have HOK := hide hok
  clear hok
  go_enter Tryd.func31, Tryd.ntmps31
  go_wp2_with fail
  refine (parse_no s _ (by omega) HOK.out).mono ?_
  rintro e w1 ⟨rfl, rfl⟩
  go_wp2
  refine bodyPost_ret (results_ct' rfl _ _ w.heap.size 40 _ (0, 0) _ rfl (heap_alloc_new w _) Tryd.underlying40 rfl (by kernel_rfl)) rfl ?_
  exact ⟨by simp, below_alloc _ _⟩

set_option maxRecDepth 100000 in
set_option maxHeartbeats 1600000 in
theorem number_yes (s : ByteArray) (a : Nat) (w : World) (hok : okText s) (hs : s.size ≤ 1099511627776) :
    Calls Tryd.prog 31 #[.string s, .int .i64 a] w fun e w' => ∃ ad len cap zs, e = .returned (.tuple #[.agg #[.int .i64 1, .string s, .bool false, .slice ad len cap, .int .i64 a], .int .i64 0]) ∧ Out w w' ad len cap zs ∧ Canon zs ∧ val zs = (dr s 0 s.size : Int) ∧ len ≤ s.size := by
  have HOK := hide hok
  clear hok
  go_enter Tryd.func31, Tryd.ntmps31
  go_wp2_with fail
  have y := tb_new w (.int .i64 0) (.string ⟨#[]⟩) (.bool false) (.slice none 0 0) (.int .i64 0)
  have b0 := below_alloc w (.cells #[.int .i64 0, .string ⟨#[]⟩, .bool false, .slice none 0 0, .int .i64 0] 40)
  generalize w.alloc (.cells #[.int .i64 0, .string ⟨#[]⟩, .bool false, .slice none 0 0, .int .i64 0] 40) = wb at *
  have hlt := y.lt
  generalize hp : w.heap.size = r at *
  replace hp := hide hp
  refine (parse_yes s _ (by omega) HOK.out).mono ?_
  rintro e w1 ⟨ad, len, cap, zs, rfl, ho, hc, hv, hl⟩
  have y' := y.below ho.1
  have y0 := y'.c0
  have y1 := y'.c1
  have y2 := y'.c2
  have y3 := y'.c3
  have y4 := y'.c4
  have z0 := y'.f 0
  have z1 := y'.f 1
  have z2 := y'.f 2
  have z3 := y'.f 3
  have z4 := y'.f 4
  go_wp2
  refine bodyPost_ret (results_ct' rfl _ _ r 40 _ (0, 0) _ rfl (tb_fin y' _ _ _ _ _) Tryd.underlying40 rfl (by kernel_rfl)) rfl ?_
  have hB : Below r w (tokSet w1 r (.int .i64 1) (.string s) (.bool false) (.slice ad len cap) (.int .i64 a)) := (b0.trans (ho.1.mono (Nat.le_of_lt hlt))).trans ((tok_only _ _ _ _ _ _ _).below (Nat.le_refl _))
  refine ⟨ad, len, cap, zs, by simp, ?_, hc, hv, hl⟩
  have b0' := hp.out.symm ▸ b0
  have hO : Out w (tokSet w1 r (.int .i64 1) (.string s) (.bool false) (.slice ad len cap) (.int .i64 a)) ad len cap zs :=
    (ho.outer b0').keep (hp.out.symm ▸ hB) (fun b hb => (tok_only _ _ _ _ _ _ _).block b (fun e => by have := (ho.lt hb).1; omega))
  exact hO
end Go.Proofs.YtkgemeeadkfnhaaDoor
