/-
 A list of ints that came in, opened.
-/
import Derived.Test.YtcgdhbgjmapoeaaDoorP11
import Derived.Test.YtcgdhbgjmapoeaaDoorP16
namespace Go.Proofs.YtcgdhbgjmapoeaaDoor
open Go.ChangeShapes Go.WideShapes Go.ChangeAt Go.RowKit

theorem cellsInt : Tryd.prog.cellsOf 3 = 1 := by kernel_rfl
theorem open_is {H : Type} {enc : TypeId × Value → H} {W : World} {a : Option Addr} {len cap : Nat} {d : DataW H} {p : List MemPlace} (h : DataW.Trod enc Tryd.prog W 0 (fun _ => true) true 48 (.slice a len cap) d p) : IntsR W a len cap := by
 obtain ⟨fuel, hf⟩ := h
 rcases open_ints Tryd.underlying48 Tryd.underlying3 cellsInt hf with ⟨hcs, hx⟩ | ⟨x, l, c, zs, hcs, _, hl, hm, hz, hx, hcell, hwz⟩
 ·simp [Value.cells] at hcs
  obtain ⟨rfl, rfl, rfl⟩ := hcs
  exact ⟨Nat.le_refl _, by decide, .inl rfl⟩
 ·simp [Value.cells] at hcs
  obtain ⟨rfl, rfl, rfl⟩ := hcs
  have hzl : zs.length = cap := by simpa using hz
  refine ⟨hl, by unfold maxLen at hm; omega, ?_⟩
  rcases Nat.eq_zero_or_pos len with h0 | h0
  ·exact .inl h0
  ·obtain ⟨b, off, rfl, hc⟩ := ints_at hcell (by omega)
   refine .inr ⟨b, off, rfl, World.block_lt_of_cell? W ⟨b, off + 0, none⟩ (hc 0 (by omega)), fun i hi => ?_⟩
   have hb := hwz _ (List.getElem_mem (show i < zs.length from by omega))
   have hb' := bounds_i64 hb
   have hci := hc i (by omega)
   have e : zs.getD i 0 = zs[i]'(by omega) := by simp [List.getD, show i < zs.length from by omega]
   exact ⟨_, hci, by rw [e]; exact hb'.1, by rw [e]; exact hb'.2⟩
end Go.Proofs.YtcgdhbgjmapoeaaDoor
