/-
  From what a law's arguments of the types []api.Int, []riddlelaw07.Step read as to the walks' words.
-/
import Derived.Test.YtofjjpkbildagaaRows
import Derived.Test.YtofjjpkbildagaaMC
import Derived.ProofKit
import Derived.OpenShut
import Derived.JoinedCond
import Derived.Carry
import Derived.Lib.SmallJoins
import Derived.Deep.Slices
import Derived.Deep.Strs
namespace Go.Proofs.Ytofjjpkbildagaa.Fm
open Go.ChangeShapes Go.WideShapes Go.ChangeAt Go.RowKit Go.Joins Go.Deep

theorem own : ownKnob Try.prog.godebug = none := by kernel_rfl
theorem cells32 : Try.prog.cellsOf 59 = 1 := by kernel_rfl
theorem cellsInt : Try.prog.cellsOf 48 = 2 := by kernel_rfl
theorem cellsI : Try.prog.cellsOf 3 = 1 := by kernel_rfl
theorem cellsB : Try.prog.cellsOf 4 = 1 := by kernel_rfl
theorem cellsM : Try.prog.cellsOf 46 = 1 := by kernel_rfl

theorem wf32 {z : Int} (h : (Lit.int .u32 z).wf = true) : 0 ≤ z ∧ z < 4294967296 := by
  have := bounds_u32 h
  omega
theorem bulk_one {H : Type} (d : DataW H) : 1 ≤ Rows.uptoBulk d := by
  cases d with
  | lit l => cases l <;> simp [Rows.uptoBulk]
  | nil => simp [Rows.uptoBulk]
  | ptr d => simp [Rows.uptoBulk]
  | slice elems spare => simp [Rows.uptoBulk]
  | agg parts => simp [Rows.uptoBulk]
  | iface t d => simp [Rows.uptoBulk]
  | map entries => simp [Rows.uptoBulk]
  | held h => simp [Rows.uptoBulk]
theorem bulk_len {H : Type} (l : List (DataW H)) : l.length ≤ Rows.uptoBulkAll l := by
  induction l with
  | nil => simp [Rows.uptoBulkAll]
  | cons x r ih => have := bulk_one x; simp only [Rows.uptoBulkAll, List.length_cons]; omega
theorem bulk_slice {H : Type} (elems spare : List (DataW H)) : elems.length ≤ Rows.uptoBulk (.slice elems spare) := by
  have h1 := bulk_len elems
  simp only [Rows.uptoBulk]
  omega
theorem bulk_mem {H : Type} {l : List (DataW H)} {d : DataW H} (h : d ∈ l) : Rows.uptoBulk d ≤ Rows.uptoBulkAll l := by
  induction l with
  | nil => cases h
  | cons x r ih =>
    simp only [Rows.uptoBulkAll]
    rcases List.mem_cons.1 h with rfl | h
    · omega
    · have := ih h; omega
theorem bulk_bound {H : Type} {l : List (DataW H)} (hk : Rows.uptoSmall H l = true) : Rows.uptoBulkAll l ≤ 1048576 := of_decide_eq_true hk
theorem laidOut : laidOutB Try.prog = true := by kernel_rfl

theorem open_nm {H : Type} {enc : TypeId × Value → H} {W : World} {a : Option Addr} {len cap : Nat} {d : DataW H} {p : List MemPlace} (h : DataW.Trod enc Try.prog W 0 (fun _ => true) true 46 (.slice a len cap) d p) :
    (∃ xs, Rd W a len cap xs) ∧ len ≤ Rows.uptoBulk d := by
  obtain ⟨fuel, hf⟩ := h
  rcases open_ints Try.underlying46 Try.underlying59 cells32 hf with ⟨hcs, hx⟩ | ⟨x, l, c, zs, hcs, _, hl, hm, hz, hx, hcell, hwz⟩
  · simp [Value.cells] at hcs
    obtain ⟨rfl, rfl, rfl⟩ := hcs
    exact ⟨⟨[], rfl, Nat.le_refl _, by decide, fun _ h => (by cases h), .inl ⟨rfl, rfl, rfl⟩⟩, Nat.zero_le _⟩
  · simp [Value.cells] at hcs
    obtain ⟨rfl, rfl, rfl⟩ := hcs
    have hzl : zs.length = cap := by simpa using hz
    refine ⟨⟨zs.take len, ?_⟩, ?_⟩
    · refine ⟨by rw [List.length_take]; omega, hl, by unfold maxLen at hm; omega, fun z hz' => wf32 (hwz z (List.mem_of_mem_take hz')), .inr ⟨_, rfl, ?_⟩⟩
      rcases Nat.eq_zero_or_pos len with h0 | h0
      · exact .inl h0
      · obtain ⟨b, off, rfl, hc⟩ := ints_at hcell (by omega)
        refine .inr ⟨b, off, rfl, World.block_lt_of_cell? W ⟨b, off + 0, none⟩ (hc 0 (by omega)), fun i hi => ?_⟩
        rw [lz_take, if_pos hi]
        exact hc i (by omega)
    · simp only [Prod.mk.injEq] at hx
      obtain ⟨rfl, _⟩ := hx
      have hb := bulk_slice (H := H) (lits .u32 (zs.take len)) (lits .u32 (zs.drop len))
      have hl2 : (lits (H := H) .u32 (zs.take len)).length = len := by simp only [lits, List.length_map, List.length_take]; omega
      omega


theorem wf_i64 {v : Int} (h : (Lit.int .i64 v).wf = true) : -9223372036854775808 ≤ v ∧ v ≤ 9223372036854775807 := by
  simp [Lit.wf, IntKind.min, IntKind.max, IntKind.bits, IntKind.signed] at h
  omega
theorem cellsStep : Try.prog.cellsOf 36 = 3 := by kernel_rfl
theorem cellsL : Try.prog.cellsOf 34 = 1 := by kernel_rfl

set_option maxRecDepth 100000 in
/-- a number in cells, limb by limb -/
theorem open_zc {H : Type} {enc : TypeId × Value → H} {W : World} {n : Nat} {v0 v1 : Value} {x : DataW H × List MemPlace} (h : DataW.trod enc Try.prog W 0 (fun _ => true) true n 48 [v0, v1] = some x) :
    ∃ s a l c xs, v0 = .bool s ∧ v1 = .slice a l c ∧ Rd W a l c xs ∧ l ≤ Rows.uptoBulk x.1 := by
  obtain ⟨y0, y1, m, rfl, _, h0, h1⟩ := trod_struct2 Try.underlying48 h
  simp [cellsB, cellsM] at h0 h1
  obtain ⟨a, len, cap, hs⟩ := slice_form Try.underlying46 h1
  obtain ⟨b, hb, -⟩ := DataW.trod_bool Try.underlying4 h0
  simp at hs hb
  subst hs hb
  obtain ⟨⟨xs, hr⟩, hk⟩ := open_nm (d := y1.1) (p := y1.2) ⟨m, by simpa [Value.cells] using h1⟩
  refine ⟨b, a, len, cap, xs, rfl, rfl, hr, ?_⟩
  simp only [Rows.uptoBulk, Rows.uptoBulkAll]
  omega

set_option maxRecDepth 100000 in
theorem open_nl {H : Type} {enc : TypeId × Value → H} {W : World} {a : Option Addr} {len cap : Nat} {d : DataW H} {p : List MemPlace} (h : DataW.Trod enc Try.prog W 0 (fun _ => true) true 34 (.slice a len cap) d p) :
    ∃ L, NL W a len L (Rows.uptoBulk d) ∧ len ≤ Rows.uptoBulk d := by
  obtain ⟨fuel, hf⟩ := h
  rcases open_slice Try.underlying34 hf with ⟨hcs, hx⟩ | ⟨a0, l0, cap0, m, n', D, Pl, hcs, hb, hle, hcap, hm, hx, hall⟩
  · simp [Value.cells] at hcs
    obtain ⟨rfl, rfl, rfl⟩ := hcs
    exact ⟨[], ⟨rfl, .inl rfl⟩, Nat.zero_le _⟩
  · simp [Value.cells] at hcs
    obtain ⟨rfl, rfl, rfl⟩ := hcs
    have hml : len ≤ m := by
      rw [hm]
      split
      · exact hle
      · exact Nat.le_refl _
    obtain ⟨rfl, -⟩ := Prod.mk.inj hx
    have hlen : len ≤ Rows.uptoBulk (DataW.slice ((List.range len).map D) ((List.range (m - len)).map fun j => D (len + j))) := by
      have := bulk_slice ((List.range len).map D) ((List.range (m - len)).map fun j => D (len + j))
      simpa using this
    have hD : ∀ i, i < len → Rows.uptoBulk (D i) ≤ Rows.uptoBulk (DataW.slice ((List.range len).map D) ((List.range (m - len)).map fun j => D (len + j))) := fun i hi => by
      have := bulk_mem (List.mem_map.2 ⟨i, List.mem_range.2 hi, rfl⟩ : D i ∈ (List.range len).map D)
      simp only [Rows.uptoBulk]
      omega
    generalize Rows.uptoBulk (DataW.slice ((List.range len).map D) ((List.range (m - len)).map fun j => D (len + j))) = bk at *
    rcases Nat.eq_zero_or_pos len with h0 | h0
    · subst h0
      exact ⟨[], ⟨rfl, .inl rfl⟩, Nat.zero_le _⟩
    · obtain ⟨b0, off, spot⟩ := a0
      have hsp : spot = none := by
        obtain ⟨cs', hc, _⟩ := hall 0 (by omega)
        rw [cellsInt] at hc
        obtain ⟨_, hl3, hcell⟩ := World.cells?_some hc
        match cs', hl3 with
        | [v0, v1], _ =>
          have e0 := hcell 0 (by omega)
          simpa [Addr.add] using World.cell?_spot e0
      subst hsp
      have hex : ∀ i, ∃ q : Bool × List Int, i < len → ∃ a l c, W.cell? ⟨b0, off + i * 2, none⟩ = some (.bool q.1) ∧ W.cell? ⟨b0, off + i * 2 + 1, none⟩ = some (.slice a l c) ∧ Rd W a l c q.2 ∧ l ≤ bk := by
        intro i
        by_cases hi : i < len
        · obtain ⟨cs', hc, htr⟩ := hall i (by omega)
          rw [cellsInt] at hc
          obtain ⟨_, hl3, hcell⟩ := World.cells?_some hc
          match cs', hl3 with
          | [v0, v1], _ =>
            obtain ⟨s, b, l, c, xs, rfl, rfl, hz, hl⟩ := open_zc htr
            have e0 := hcell 0 (by omega)
            have e1 := hcell 1 (by omega)
            rw [Addr.add_lit, Addr.add_lit] at e0 e1
            exact ⟨(s, xs), fun _ => ⟨b, l, c, e0, e1, hz, by have h1 := hD i hi; dsimp only at hl; omega⟩⟩
        · exact ⟨(false, []), fun h => absurd h hi⟩
      obtain ⟨Q, hQ⟩ := Classical.skolem.1 hex
      refine ⟨(List.range len).map Q, ⟨by simp, .inr ⟨b0, off, rfl, fun i hi => ?_⟩⟩, hlen⟩
      have hi' : i < len := by simpa using hi
      simpa using hQ i hi'

theorem NL.mono {w : World} {ad : Option Addr} {n : Nat} {L : List (Bool × List Int)} {B B' : Nat} (h : NL w ad n L B) (hB : B ≤ B') : NL w ad n L B' := by
  refine ⟨h.1, ?_⟩
  rcases h.2 with h | ⟨b, off, rfl, h0⟩
  · exact .inl h
  · refine .inr ⟨b, off, rfl, fun i hi => ?_⟩
    obtain ⟨a, l, c, h1, h2, h3, h4⟩ := h0 i hi
    exact ⟨a, l, c, h1, h2, h3, by omega⟩
theorem SL.mono {w : World} {ad : Option Addr} {n : Nat} {L : List Stp} {B B' : Nat} (h : SL w ad n L B) (hB : B ≤ B') : SL w ad n L B' := by
  refine ⟨h.1, ?_⟩
  rcases h.2 with h | ⟨b, off, rfl, h0⟩
  · exact .inl h
  · refine .inr ⟨b, off, rfl, fun i hi => ?_⟩
    obtain ⟨a, l, c, h1, h2, h3, h4, h5⟩ := h0 i hi
    exact ⟨a, l, c, h1, h2, h3, NL.mono h4 hB, by omega⟩

set_option maxRecDepth 100000 in
theorem open_sl {H : Type} {enc : TypeId × Value → H} {W : World} {base : Nat} {v : Value} {d : DataW H} {p : List MemPlace} (hv : Value.okWide Try.prog W .any base 30 v) (h : DataW.Trod enc Try.prog W 0 (fun _ => true) true 30 v d p) :
    ∃ a len cap L, v = .slice a len cap ∧ SL W a len L (Rows.uptoBulk d) ∧ len ≤ Rows.uptoBulk d ∧ ∀ x ∈ L, -9223372036854775808 ≤ x.2.1 ∧ x.2.1 ≤ 9223372036854775807 := by
  obtain ⟨a, len, cap, rfl⟩ := okWide_slice Try.underlying30 hv
  refine ⟨a, len, cap, ?_⟩
  obtain ⟨fuel, hf⟩ := h
  rcases open_slice Try.underlying30 hf with ⟨hcs, hx⟩ | ⟨a0, l0, cap0, m, n', D, Pl, hcs, hb, hle, hcap, hm, hx, hall⟩
  · simp [Value.cells] at hcs
    obtain ⟨rfl, rfl, rfl⟩ := hcs
    exact ⟨[], rfl, ⟨rfl, .inl rfl⟩, Nat.zero_le _, fun x hx => by cases hx⟩
  · simp [Value.cells] at hcs
    obtain ⟨rfl, rfl, rfl⟩ := hcs
    have hml : len ≤ m := by
      rw [hm]
      split
      · exact hle
      · exact Nat.le_refl _
    obtain ⟨rfl, -⟩ := Prod.mk.inj hx
    have hlen : len ≤ Rows.uptoBulk (DataW.slice ((List.range len).map D) ((List.range (m - len)).map fun j => D (len + j))) := by
      have := bulk_slice ((List.range len).map D) ((List.range (m - len)).map fun j => D (len + j))
      simpa using this
    have hD : ∀ i, i < len → Rows.uptoBulk (D i) ≤ Rows.uptoBulk (DataW.slice ((List.range len).map D) ((List.range (m - len)).map fun j => D (len + j))) := fun i hi => by
      have := bulk_mem (List.mem_map.2 ⟨i, List.mem_range.2 hi, rfl⟩ : D i ∈ (List.range len).map D)
      simp only [Rows.uptoBulk]
      omega
    generalize Rows.uptoBulk (DataW.slice ((List.range len).map D) ((List.range (m - len)).map fun j => D (len + j))) = bk at *
    rcases Nat.eq_zero_or_pos len with h0 | h0
    · subst h0
      exact ⟨[], rfl, ⟨rfl, .inl rfl⟩, Nat.zero_le _, fun x hx => by cases hx⟩
    · obtain ⟨b0, off, spot⟩ := a0
      have hsp : spot = none := by
        obtain ⟨cs', hc, _⟩ := hall 0 (by omega)
        rw [cellsStep] at hc
        obtain ⟨_, hl3, hcell⟩ := World.cells?_some hc
        match cs', hl3 with
        | [v0, v1, v2], _ =>
          have e0 := hcell 0 (by omega)
          simpa [Addr.add] using World.cell?_spot e0
      subst hsp
      have hex : ∀ i, ∃ q : Stp, i < len → ∃ a m c, W.cell? ⟨b0, off + i * 3, none⟩ = some (.bool q.1) ∧ W.cell? ⟨b0, off + i * 3 + 1, none⟩ = some (.int .i64 q.2.1) ∧ W.cell? ⟨b0, off + i * 3 + 2, none⟩ = some (.slice a m c) ∧ NL W a m q.2.2 bk ∧ m ≤ bk ∧ -9223372036854775808 ≤ q.2.1 ∧ q.2.1 ≤ 9223372036854775807 := by
        intro i
        by_cases hi : i < len
        · obtain ⟨cs', hc, htr⟩ := hall i (by omega)
          rw [cellsStep] at hc
          obtain ⟨_, hl3, hcell⟩ := World.cells?_some hc
          obtain ⟨y0, y1, y2, k, hy, _, g0, g1, g2⟩ := trod_struct3 Try.underlying36 htr
          match cs', hl3 with
          | [v0, v1, v2], _ =>
            simp [cellsB, cellsI, cellsL] at g0 g1 g2
            obtain ⟨s, hs, -⟩ := DataW.trod_bool Try.underlying4 g0
            obtain ⟨q, hq, -, hw⟩ := DataW.trod_int Try.underlying3 g1
            obtain ⟨al, ll, cl, hsl⟩ := slice_form Try.underlying34 g2
            simp at hs hq hsl
            subst hs hq hsl
            obtain ⟨L, hL, hl⟩ := open_nl (d := y2.1) (p := y2.2) ⟨k, by simpa [Value.cells] using g2⟩
            have e0 := hcell 0 (by omega)
            have e1 := hcell 1 (by omega)
            have e2 := hcell 2 (by omega)
            rw [Addr.add_lit, Addr.add_lit] at e0 e1 e2
            have h1 := hD i hi
            have h2 : Rows.uptoBulk (D i) = Rows.uptoBulk y0.1 + (Rows.uptoBulk y1.1 + (Rows.uptoBulk y2.1 + 0)) + 1 := by
              rw [(Prod.mk.inj hy).1]
              simp [Rows.uptoBulk, Rows.uptoBulkAll]
            exact ⟨(s, q, L), fun _ => ⟨al, ll, cl, e0, e1, e2, NL.mono hL (by omega), by omega, wf_i64 hw⟩⟩
        · exact ⟨(false, 0, []), fun h => absurd h hi⟩
      obtain ⟨Q, hQ⟩ := Classical.skolem.1 hex
      refine ⟨(List.range len).map Q, rfl, ⟨by simp, .inr ⟨b0, off, rfl, fun i hi => ?_⟩⟩, hlen, fun x hx => ?_⟩
      · have hi' : i < len := by simpa using hi
        obtain ⟨a, m, c, g0, g1, g2, g3, g4, -⟩ := hQ i hi'
        exact ⟨a, m, c, by simpa using g0, by simpa using g1, by simpa using g2, by simpa using g3, g4⟩
      · obtain ⟨i, hi, rfl⟩ := List.mem_map.1 hx
        obtain ⟨_, _, _, _, _, _, _, _, g5⟩ := hQ i (List.mem_range.1 hi)
        exact g5
end Go.Proofs.Ytofjjpkbildagaa.Fm
