/-
 From what a law's argument of the type api.Int reads as to the walks' words.
-/
import Derived.Test.YtmlephkmbkiofaaGreatDoorR17
import Derived.Test.YtmlephkmbkiofaaGreatDoorR06
import Derived.Lib.SmallJoins
namespace Go.Proofs.YtmlephkmbkiofaaGreatDoor
open Go.ChangeShapes Go.WideShapes Go.ChangeAt Go.RowKit Go.Joins

theorem cellsInt : Tryz.prog.cellsOf 26 = 2 := by kernel_rfl

set_option maxRecDepth 100000 in
theorem open_zm {H : Type} {enc : TypeId × Value → H} {W : World} {base : Nat} {v : Value} {d : DataW H} {p : List MemPlace} (hv : Value.okWide Tryz.prog W .any base 26 v) (h : DataW.Trod enc Tryz.prog W 0 (fun _ => true) true 26 v d p) :
  ∃ s a len cap z, v = .agg #[.bool s, .slice a len cap] ∧ Zm W s a len cap z ∧ len ≤ Rows.uptoBulk d := by
 obtain ⟨v0, v1, y0, y1, n, rfl, rfl, rfl, h0, h1⟩ := open_agg2 Tryz.underlying26 (by kernel_rfl) cellsInt hv h
 obtain ⟨a, len, cap, hs⟩ := slice_form Tryz.underlying24 h1
 obtain ⟨b, hb, -⟩ := DataW.trod_bool Tryz.underlying4 h0
 simp at hs hb
 subst hs hb
 obtain ⟨⟨xs, hr⟩, hk⟩ := open_nm (d := y1.1) (p := y1.2) ⟨n, by simpa [Value.cells] using h1⟩
 refine ⟨b, a, len, cap, _, rfl, ⟨_, ⟨xs, hr, rfl⟩, rfl⟩, ?_⟩
 simp only [Rows.uptoBulk, Rows.uptoBulkAll]
 omega

end Go.Proofs.YtmlephkmbkiofaaGreatDoor
