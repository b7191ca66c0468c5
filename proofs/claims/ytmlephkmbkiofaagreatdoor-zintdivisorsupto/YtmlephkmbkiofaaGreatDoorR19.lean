/-
 From what a law's argument of the type []api.Int reads as to the walks' words.
-/
import Derived.Test.YtmlephkmbkiofaaGreatDoorR18
import Derived.Test.YtmlephkmbkiofaaGreatDoorR15
import Derived.Deep.SlicePairs
namespace Go.Proofs.YtmlephkmbkiofaaGreatDoor
open Go.ChangeShapes Go.WideShapes Go.ChangeAt Go.RowKit Go.Joins Go.Deep

theorem bulkAll_append {H : Type} (xs ys : List (DataW H)) : Rows.uptoBulkAll (xs ++ ys) = Rows.uptoBulkAll xs + Rows.uptoBulkAll ys := by
 induction xs with
 | nil => simp [Rows.uptoBulkAll]
 | cons x xs ih => simp only [List.cons_append, Rows.uptoBulkAll, ih]; omega
theorem bulk_fold {H : Type} {L : Nat → Nat} {D0 D1 : Nat → DataW H} {n : Nat} (h : ∀ i, i < n → L i ≤ Rows.uptoBulk (D1 i)) : foldL 2 L n + n ≤ 2 + Rows.uptoBulkAll ((List.range n).map fun i => DataW.agg [D0 i, D1 i]) := by
 induction n with
 | zero => simp [foldL, Rows.uptoBulkAll]
 | succ n ih =>
  have h1 := ih (fun i hi => h i (by omega))
  have h2 := h n (by omega)
  rw [List.range_succ, List.map_append, bulkAll_append]
  simp only [List.map_cons, List.map_nil, Rows.uptoBulkAll, Rows.uptoBulk]
  show foldL 2 L n + L n + (n + 1) ≤ _
  omega
theorem foldL_ge (l : Nat) (L : Nat → Nat) (n : Nat) : l ≤ foldL l L n := by
 induction n with
 | zero => exact Nat.le_refl _
 | succ n ih => exact Nat.le_trans ih (Nat.le_add_right _ _)
theorem tab_lt {w : World} (h : Tab w) : 0 < w.heap.size := by
 unfold Tab Lib.TabIs World.var? at h
 rcases Nat.eq_zero_or_pos w.heap.size with h0 | h0
 ·exfalso
  cases hg : Tryz.prog.globalNamed tabName with
  | none => simp [hg] at h
  | some g => simp [hg, Array.getElem?_eq_none (show w.heap.size ≤ g by omega)] at h
 ·exact h0
set_option maxRecDepth 100000 in
theorem open_zl {H : Type} {enc : TypeId × Value → H} {W : World} {a : Option Addr} {len cap : Nat} {d : DataW H} {p : List MemPlace} (hW : 0 < W.heap.size) (hbd : Rows.uptoBulk d ≤ 1048576) (h : DataW.Trod enc Tryz.prog W 0 (fun _ => true) true 22 (.slice a len cap) d p) :
  ∃ (b off : Nat) (S : Nat → Bool) (A : Nat → Option Addr) (L C : Nat → Nat) (M : Nat → Int) (X : Nat → List Int), ZL W b off len S A L C M ∧ (∀ i, i < len → Rd W (A i) (L i) (C i) (X i)) ∧ (∀ i, i < len → M i = val (X i)) ∧ (0 < len → a = some ⟨b, off, none⟩) ∧ len ≤ Rows.uptoBulk d ∧ foldL 2 L len ≤ Rows.uptoBulk d + 2 := by
 obtain ⟨fuel, hf⟩ := h
 rcases open_slice_pairs Tryz.underlying22 Tryz.underlying26 cellsInt rfl rfl (by kernel_rfl) (by kernel_rfl) hf with ⟨hcs, hx⟩ | ⟨a0, l0, cap0, m, n', V0, V1, D0, D1, P0, P1, hcs, hb, hle, hcap, hm, hx, hall⟩
 ·simp [Value.cells] at hcs
  obtain ⟨rfl, rfl, rfl⟩ := hcs
  exact ⟨0, 0, fun _ => false, fun _ => none, fun _ => 0, fun _ => 0, fun _ => 0, fun _ => [], ⟨hW, fun i hi => absurd hi (by omega), fun i hi => absurd hi (by omega), fun i hi => absurd hi (by omega), fun i hi => absurd hi (by omega)⟩, fun i hi => absurd hi (by omega), fun i hi => absurd hi (by omega), fun h => absurd h (by omega), by omega, by simp [foldL]⟩
 ·simp [Value.cells] at hcs
  obtain ⟨rfl, rfl, rfl⟩ := hcs
  have hml : len ≤ m := by
   rw [hm]
   split
   ·exact hle
   ·exact Nat.le_refl _
  have hex : ∀ i, ∃ t : Bool × Option Addr × Nat × Nat × List Int, i < len → V0 i = .bool t.1 ∧ V1 i = .slice t.2.1 t.2.2.1 t.2.2.2.1 ∧ Rd W t.2.1 t.2.2.1 t.2.2.2.1 t.2.2.2.2 ∧ t.2.2.1 ≤ Rows.uptoBulk (D1 i) := by
   intro i
   by_cases hi : i < len
   ·obtain ⟨_, _, h0, h1⟩ := hall i (by omega)
    obtain ⟨a1, l1, c1, hs⟩ := slice_form Tryz.underlying24 h1
    obtain ⟨bb, hbb, -⟩ := DataW.trod_bool Tryz.underlying4 h0
    simp at hs hbb
    rw [hs] at h1
    obtain ⟨⟨xs, hr⟩, hk⟩ := open_nm (d := D1 i) (p := P1 i) ⟨n', by simpa [Value.cells] using h1⟩
    exact ⟨(bb, a1, l1, c1, xs), fun _ => ⟨hbb, hs, hr, hk⟩⟩
   ·exact ⟨(false, none, 0, 0, []), fun h => absurd h hi⟩
  obtain ⟨T, hT⟩ := Classical.skolem.1 hex
  have hbk := bulk_fold (L := fun i => (T i).2.2.1) (D0 := D0) (D1 := D1) (n := len) (fun i hi => (hT i hi).2.2.2)
  have hd : Rows.uptoBulk d = Rows.uptoBulkAll ((List.range len).map fun i => DataW.agg [D0 i, D1 i]) + Rows.uptoBulkAll ((List.range (m - len)).map fun j => DataW.agg [D0 (len + j), D1 (len + j)]) + 1 := by
   rw [(Prod.mk.inj hx).1]
   simp [Rows.uptoBulk]
  have hge := foldL_ge 2 (fun i => (T i).2.2.1) len
  rcases Nat.eq_zero_or_pos len with h0 | h0
  ·subst h0
   exact ⟨0, 0, fun _ => false, fun _ => none, fun _ => 0, fun _ => 0, fun _ => 0, fun _ => [], ⟨hW, fun i hi => absurd hi (by omega), fun i hi => absurd hi (by omega), fun i hi => absurd hi (by omega), fun i hi => absurd hi (by omega)⟩, fun i hi => absurd hi (by omega), fun i hi => absurd hi (by omega), fun h => absurd h (by omega), by omega, by simp [foldL]⟩
  ·obtain ⟨b, off, spot⟩ := a0
   have hspot : spot = none := by simpa [Addr.add] using World.cell?_spot (hall 0 (by omega)).1
   subst hspot
   have hc0 : ∀ i, i < len → W.cell? ⟨b, off + i * 2, none⟩ = some (.bool (T i).1) := by
    intro i hi
    have e := (hall i (by omega)).1
    rw [Addr.add_lit, (hT i hi).1] at e
    exact e
   have hc1 : ∀ i, i < len → W.cell? ⟨b, off + i * 2 + 1, none⟩ = some (.slice (T i).2.1 (T i).2.2.1 (T i).2.2.2.1) := by
    intro i hi
    have e := (hall i (by omega)).2.1
    rw [Addr.add_lit, (hT i hi).2.1] at e
    exact e
   refine ⟨b, off, fun i => (T i).1, fun i => (T i).2.1, fun i => (T i).2.2.1, fun i => (T i).2.2.2.1, fun i => val (T i).2.2.2.2, fun i => (T i).2.2.2.2, ⟨World.block_lt_of_cell? W ⟨b, off + 0 * 2, none⟩ (hc0 0 h0), hc0, hc1, fun i hi => ⟨_, (hT i hi).2.2.1, rfl⟩, fun i hi => ?_⟩, fun i hi => (hT i hi).2.2.1, fun _ _ => rfl, fun _ => rfl, by omega, by omega⟩
   have := foldL_le (l := 2) (L := fun i => (T i).2.2.1) hi
   omega
end Go.Proofs.YtmlephkmbkiofaaGreatDoor
