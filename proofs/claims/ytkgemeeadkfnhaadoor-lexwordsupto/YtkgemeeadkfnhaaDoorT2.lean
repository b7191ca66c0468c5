/-
  Walks: a number cut into pieces of nine digits.
-/
import Derived.Test.YtkgemeeadkfnhaaDoorT1
import Derived.Test.YtkgemeeadkfnhaaDoorDec
import Derived.Deep.LoopGhost
namespace Go.Proofs.YtkgemeeadkfnhaaDoor
open Go.RowKit

/-- bare of an answer of the call's own -/
theorem bare_out {w0 w : World} {ad : Option Addr} {n cap : Nat} {X : List Int} (h : Out w0 w ad n cap X) :
    Calls Tryd.prog 41 #[.slice ad n cap] w fun e w' => e = .returned (.slice ad (tl X n) cap) ∧ w = w' := bare_any h.rd

theorem Out.trimmed {w0 w : World} {ad : Option Addr} {n cap : Nat} {X : List Int} (h : Out w0 w ad n cap X) : Out w0 w ad (tl X n) cap (trim X) ∧ Canon (trim X) := by
  have hrd := h.rd
  refine ⟨?_, canon_trim hrd.2.2.2.1⟩
  have hn := hrd.1
  obtain ⟨hB, ⟨rfl, rfl, rfl, rfl⟩ | ⟨b, zs, rfl, hb, hr, hlz, hzl, hle, hm, rfl⟩⟩ := h
  · exact ⟨hB, .inl ⟨rfl, rfl, rfl, rfl⟩⟩
  · have e : tl (zs.take n) n = tl zs n := tl_congr (fun i hi => by rw [lz_take, if_pos hi])
    have hb2 := tl_le zs n
    refine ⟨hB, .inr ⟨b, zs, rfl, hb, hr, hlz, hzl, by omega, hm, ?_⟩⟩
    unfold trim
    rw [hn, e, List.take_take, Nat.min_eq_left hb2]

/-- what stands between two rows that are apart -/
theorem out_one {w0 w : World} (hB : Below w0.heap.size w0 w) (x : Int) (h0 : 0 ≤ x) (h1 : x < 4294967296) : Out w0 (w.alloc (.cells #[.int .u32 x] 64)) (some ⟨w.heap.size, 0, none⟩) 1 1 [x] :=
  ⟨hB.alloc hB.size _, .inr ⟨w.heap.size, [x], rfl, hB.size, row_alloc w [x], fun z hz => by rw [List.mem_singleton.1 hz]; exact ⟨h0, h1⟩, rfl, Nat.le_refl _, by decide, rfl⟩⟩

theorem Out.alloc {w0 w : World} {ad : Option Addr} {n cap : Nat} {X : List Int} (h : Out w0 w ad n cap X) (o : Obj) : Out w0 (w.alloc o) ad n cap X :=
  h.keep (h.1.alloc h.1.size _) (fun _ hb => Below.heap_alloc _ _ _ (h.lt hb).2)

/-- append of one limb -/
theorem run_append_one {w0 w : World} {ad : Option Addr} {n cap : Nat} {xs : List Int} (hO : Out w0 w ad n cap xs) (ty : TypeId) (x : Int) (h0 : 0 ≤ x) (h1 : x < 4294967296) (hbig : n + 1 ≤ 35184372088832) :
    ∃ v' w', (Builtin.append_ #[36, 36] ty #[.slice ad n cap, .slice (some ⟨w.heap.size, 0, none⟩) 1 1]).run Tryd.prog (w.alloc (.cells #[.int .u32 x] 64)) = .ok v' w' ∧
      ∃ ad' cap', v' = .slice ad' (n + 1) cap' ∧ Out w0 w' ad' (n + 1) cap' (xs ++ [x]) ∧ (∀ k, k < w.heap.size → blk ad ≠ some k → w'.heap[k]? = w.heap[k]?) ∧ w.heap.size ≤ w'.heap.size ∧ (∀ k, blk ad' = some k → blk ad = some k ∨ w.heap.size ≤ k) := by
  obtain ⟨v', w', hr, ad', cap', hv, ho, hg, hbk⟩ := run_append_out (hO.alloc (.cells #[.int .u32 x] 64)) ty ⟨w.heap.size, 0, none⟩ 1 1 [x] rfl (fun z hz => by rw [List.mem_singleton.1 hz]; exact ⟨h0, h1⟩) (fun j hj => by
    obtain rfl : j = 0 := by omega
    rw [Addr.add_lit]
    exact (row_alloc w [x]).cell (i := 0) (by simp)) hbig
  refine ⟨v', w', hr, ad', cap', hv, ho, fun k hk hne => ?_, ?_, fun k hk => ?_⟩
  · rw [hg.block k (by simp; omega) (fun e => hne e.symm)]
    exact Below.heap_alloc _ _ _ hk
  · have := hg.size; simp at this; omega
  · rcases hbk k hk with h | h
    · exact .inl h
    · exact .inr (by simp at h; omega)

/-- what holds of the rest and of the pieces at every round's head -/
def CutRel (w : World) (n0 : Int) (l1 : Nat) (gk : Nat) (l p : Value) (wr : World) : Prop :=
  ∃ adL nL capL X adP k capP ps, l = .slice adL nL capL ∧ p = .slice adP k capP ∧ Out w wr adL nL capL X ∧ Canon X ∧ Out w wr adP k capP ps ∧ (∀ b, blk adL = some b → blk adP ≠ some b) ∧ nL ≤ l1 ∧ 0 < k ∧ k ≤ 2 * l1 + 1 ∧ Pcs ps ∧ pv ps + val X * pb k = n0 ∧ (val X = 0 → 1 < k → lz ps (k - 1) ≠ 0) ∧ gk = (val X).toNat

theorem cut_bound {X ps : List Int} {k l1 : Nat} {n0 : Int} (_hc : Canon X) (hp : Pcs ps) (hv : pv ps + val X * pb k = n0) (hlt : n0 < pw l1) (hpos : 0 < val X) : k ≤ 2 * l1 := by
  have h1 := pv_nonneg hp
  have h2 : 1 * pb k ≤ val X * pb k := Int.mul_le_mul_of_nonneg_right (by omega) (Int.le_of_lt (pb_pos k))
  have h3 := pb_pw l1
  rcases Nat.lt_or_ge (2 * l1) k with h | h
  · have := pb_mono (Nat.le_of_lt h); omega
  · exact h

theorem cut_value {X ps : List Int} {k : Nat} {n0 : Int} (hk : ps.length = k) (hv : pv ps + val X * pb k = n0) : pv (ps ++ [val X % 1000000000]) + val X / 1000000000 * pb (k + 1) = n0 := by
  rw [pv_snoc, hk, ← hv]
  have e : val X % 1000000000 + 1000000000 * (val X / 1000000000) = val X := Int.emod_add_mul_ediv _ _
  have e2 : val X / 1000000000 * pb (k + 1) = 1000000000 * (val X / 1000000000) * pb k := by
    show val X / 1000000000 * (1000000000 * pb k) = _
    rw [← Int.mul_assoc, Int.mul_comm (val X / 1000000000)]
  rw [e2, Int.add_assoc, ← Int.add_mul, e]

theorem lz_snoc (ps : List Int) (x : Int) : lz (ps ++ [x]) ps.length = x := by simp [lz]

end Go.Proofs.YtkgemeeadkfnhaaDoor
