/-
  Layer 3: an owner's writing into words.
-/
import Derived.Test.YtnikdfmdcoidmaaDoorXK
namespace Go.Proofs.YtnikdfmdcoidmaaDoor
open Go.RowKit Go.Shelf

/-- the worlds differ at blocks from lo up to hi alone -/
structure Spo (lo hi : Nat) (w w' : World) : Prop where
  os : w'.os = w.os
  tape : w'.tape = w.tape
  output : w'.output = w.output
  size : w'.heap.size = w.heap.size
  block : ∀ b, (b < lo ∨ hi ≤ b) → w'.heap[b]? = w.heap[b]?
theorem Spo.refl (lo hi : Nat) (w : World) : Spo lo hi w w := ⟨rfl, rfl, rfl, rfl, fun _ _ => rfl⟩
theorem Spo.drewN {lo hi : Nat} {w w' : World} (h : Spo lo hi w w') (n : Nat) : Spo lo hi w (w'.drewN n) := ⟨h.os, h.tape, h.output, h.size, h.block⟩
theorem Spo.only {lo hi b : Nat} {w w' w'' : World} (h : Spo lo hi w w') (ho : Only b w' w'') (h1 : lo ≤ b) (h2 : b < hi) : Spo lo hi w w'' :=
  ⟨ho.os.trans h.os, ho.tape.trans h.tape, ho.output.trans h.output, ho.size.trans h.size, fun k hk => (ho.block k (by omega)).trans (h.block k hk)⟩

/-- where limbs may be written -/
def MgS (lo hi : Nat) (w : World) (ad : Option Addr) (len cap : Nat) : Prop := (ad = none ∧ len = 0 ∧ cap = 0) ∨ ∃ b ys, ad = some ⟨b, 0, none⟩ ∧ lo ≤ b ∧ b < hi ∧ Row w b ys ∧ ys.length = cap ∧ len ≤ cap ∧ cap ≤ 9223372036854775807
theorem mgs_of {w W : World} {x : TM} (h : Mg w W x) : MgS w.heap.size W.heap.size W x.ad x.len x.cap := by
  obtain ⟨⟨_, ⟨h1, h2, h3, _⟩ | ⟨b, ys, h1, h2, h3, _, h5, h6, h7, _⟩⟩, _⟩ := h
  · exact .inl ⟨h1, h2, h3⟩
  · exact .inr ⟨b, ys, h1, h2, h3.lt, h3, h5, h6, h7⟩
/-- rows of limbs are rows of limbs still -/
def RowsOk (w w' : World) : Prop := ∀ b ys, Row w b ys → ∃ zs, Row w' b zs ∧ zs.length = ys.length
theorem RowsOk.refl (w : World) : RowsOk w w := fun _ ys h => ⟨ys, h, rfl⟩
theorem MgS.ok {lo hi : Nat} {w w' : World} {ad : Option Addr} {len cap : Nat} (h : MgS lo hi w ad len cap) (hk : RowsOk w w') : MgS lo hi w' ad len cap := by
  rcases h with h | ⟨b, ys, h1, h2, h3, h4, h5, h6⟩
  · exact .inl h
  · obtain ⟨zs, hz, hl⟩ := hk b ys h4
    exact .inr ⟨b, zs, h1, h2, h3, hz, by omega, h6⟩
theorem rowsOk_only {w w' : World} {b : Nat} {zs : List Int} (ho : Only b w w') (hr : ∀ ys, Row w b ys → ys.length = zs.length) (hz : Row w' b zs) : RowsOk w w' := by
  intro k ys hk
  by_cases e : k = b
  · subst e; exact ⟨zs, hz, (hr ys hk).symm⟩
  · exact ⟨ys, (ho.block k e).trans hk, rfl⟩
theorem row_len {w : World} {b : Nat} {xs ys : List Int} (h : Row w b xs) (k : Row w b ys) : ys.length = xs.length := by
  have e : some (Obj.cells (U xs) 56 (0, 0)) = some (Obj.cells (U ys) 56 (0, 0)) := h.symm.trans k
  have := congrArg Array.size (Obj.cells.inj (Option.some.inj e)).1
  rw [U_size, U_size] at this
  omega

/-- what is so when i words are written over -/
structure SpI (w0 : World) (lo hi g cap i : Nat) (wr : World) : Prop where
  keep : Spo lo hi w0 wr
  row : ∃ cur, wr.heap[g]? = some (.cells cur 52 (0, 0)) ∧ cur.size = cap * 5
  rest : ∀ j, i * 5 ≤ j → j < cap * 5 → wr.cell? ⟨g, j, none⟩ = w0.cell? ⟨g, j, none⟩
  mags : RowsOk w0 wr
theorem SpI.inner {w0 : World} {lo hi g cap i b : Nat} {wr wr' : World} {ys zs : List Int} (h : SpI w0 lo hi g cap i wr) (ho : Only b wr wr') (h1 : lo ≤ b) (h2 : b < hi) (hy : Row wr b ys) (hz : Row wr' b zs) (hl : zs.length = ys.length) : SpI w0 lo hi g cap i wr' := by
  obtain ⟨cur, hc, hs⟩ := h.row
  have hne : g ≠ b := by
    rintro rfl
    have hy' : wr.heap[g]? = some (.cells (U ys) 56 (0, 0)) := hy
    rw [hc] at hy'
    exact absurd (Obj.cells.inj (Option.some.inj hy')).2.1 (by decide)
  refine ⟨h.keep.only ho h1 h2, ⟨cur, (ho.block g hne).trans hc, hs⟩, fun j hj1 hj2 => ?_, ?_⟩
  · exact (World.cell?_of_block (w := wr) (a := ⟨g, j, none⟩) (ho.block g hne)).trans (h.rest j hj1 hj2)
  · intro k us hk
    obtain ⟨vs, hv, hvl⟩ := h.mags k us hk
    obtain ⟨ts, ht, htl⟩ := rowsOk_only ho (fun us hu => by rw [row_len hy hu]; omega) hz k vs hv
    exact ⟨ts, ht, by omega⟩
theorem SpI.drewN {w0 : World} {lo hi g cap i : Nat} {wr : World} (h : SpI w0 lo hi g cap i wr) (n : Nat) : SpI w0 lo hi g cap i (wr.drewN n) := ⟨h.keep.drewN n, h.row, h.rest, h.mags⟩

def fiveSet (w : World) (g i : Nat) (u0 u1 u2 u3 u4 : Value) : World := ((((w.setCell ⟨g, i * 5, none⟩ u0).setCell ⟨g, i * 5 + 1, none⟩ u1).setCell ⟨g, i * 5 + 2, none⟩ u2).setCell ⟨g, i * 5 + 3, none⟩ u3).setCell ⟨g, i * 5 + 4, none⟩ u4
theorem SpI.word {w0 : World} {lo hi g cap i : Nat} {wr : World} (h : SpI w0 lo hi g cap i wr) (h1 : lo ≤ g) (h2 : g < hi) (u0 u1 u2 u3 u4 : Value) : SpI w0 lo hi g cap (i + 1) (fiveSet wr g i u0 u1 u2 u3 u4) := by
  have ho : Only g wr (fiveSet wr g i u0 u1 u2 u3 u4) := ((((Only.set g (i * 5) wr u0).trans (Only.set g (i * 5 + 1) _ u1)).trans (Only.set g (i * 5 + 2) _ u2)).trans (Only.set g (i * 5 + 3) _ u3)).trans (Only.set g (i * 5 + 4) _ u4)
  obtain ⟨cur, hc, hs⟩ := h.row
  have y0 := heap_setCell_same wr g (i * 5) _ 52 u0 hc
  have y1 := heap_setCell_same _ g (i * 5 + 1) _ 52 u1 y0
  have y2 := heap_setCell_same _ g (i * 5 + 2) _ 52 u2 y1
  have y3 := heap_setCell_same _ g (i * 5 + 3) _ 52 u3 y2
  have y4 := heap_setCell_same _ g (i * 5 + 4) _ 52 u4 y3
  refine ⟨h.keep.only ho h1 h2, ⟨_, y4, by simp [hs]⟩, fun j hj1 hj2 => ?_, ?_⟩
  · rw [← h.rest j (by omega) hj2]
    rw [cell_of_row _ g j _ _ (0, 0) hc]
    have := cell_of_row _ g j _ _ (0, 0) y4
    refine this.trans ?_
    rw [Array.getElem?_setIfInBounds_ne (by omega), Array.getElem?_setIfInBounds_ne (by omega), Array.getElem?_setIfInBounds_ne (by omega), Array.getElem?_setIfInBounds_ne (by omega), Array.getElem?_setIfInBounds_ne (by omega)]
  · intro k us hk
    obtain ⟨vs, hv, hvl⟩ := h.mags k us hk
    have hv' : wr.heap[k]? = some (.cells (U vs) 56 (0, 0)) := hv
    exact ⟨vs, (ho.block k (fun e => by subst e; rw [hc] at hv'; exact absurd (Obj.cells.inj (Option.some.inj hv')).2.1 (by decide))).trans hv, hvl⟩
theorem SpI.cells {w0 : World} {lo hi g cap i : Nat} {wr : World} (h : SpI w0 lo hi g cap i wr) {j : Nat} (hj : j < cap * 5) : ∃ u, wr.cell? ⟨g, j, none⟩ = some u := by
  obtain ⟨cur, hc, hs⟩ := h.row
  rw [cell_of_row wr g j _ _ (0, 0) hc, Array.getElem?_eq_getElem (by omega)]
  exact ⟨_, rfl⟩
theorem SpI.frozen {w0 : World} {lo hi g cap i : Nat} {wr : World} (h : SpI w0 lo hi g cap i wr) (j : Nat) : wr.frozen? ⟨g, j, none⟩ = false := by
  obtain ⟨cur, hc, _⟩ := h.row
  exact frozen_of_row wr g j _ _ hc

set_option maxRecDepth 100000 in
set_option maxHeartbeats 6400000 in
theorem spoil_some {w0 : World} {lo hi g n cap : Nat} (h : SpI w0 lo hi g cap 0 w0) (h1 : lo ≤ g) (h2 : g < hi) (hnc : n ≤ cap) (hcb : cap ≤ 9223372036854775807)
    (hm : ∀ i, i < cap → ∃ ad len cp, w0.cell? ⟨g, i * 5 + 3, none⟩ = some (.slice ad len cp) ∧ MgS lo hi w0 ad len cp) :
    Calls Tryd.prog 19 #[.slice (some ⟨g, 0, none⟩) n cap] w0 fun e w' => e = .returned (.tuple #[]) ∧ Spo lo hi w0 w' := by
  replace hm := hide hm
  go_enter Tryd.func19, Tryd.ntmps19
  go_wp2_with fail
  go_loopw [2] (fun i wr => ∃ k : Nat, k ≤ cap ∧ i = .int .i64 k ∧ SpI w0 lo hi g cap k wr) (fun i _ => cap - (intOf i).toNat)
  case atStart => exact ⟨0, Nat.zero_le _, rfl, h⟩
  case round =>
    obtain ⟨k, hk, rfl, hI⟩ := hrel
    clear h
    by_cases hkl : k < cap
    · obtain ⟨ad, len, cp, hc0, hM0⟩ := hm.out k hkl
      have hc3 := (hI.rest (k * 5 + 3) (by omega) (by omega)).trans hc0
      have hM := hM0.ok hI.mags
      clear hc0 hM0
      go_wp2_with fail
      rcases hM with ⟨rfl, rfl, rfl⟩ | ⟨b, ys, rfl, hb1, hb2, hy, hyl, hlc, hcm⟩
      · go_quiet (fail)
        go_wp2_with fail
        have hI2 := hI.drewN nq
        clear hc3
        generalize wr.drewN nq = wq at *
        go_loop [4] (fun i => i = .int .i64 0) (fun _ => 0)
        case atStart => rfl
        case round =>
          obtain rfl := hrel
          obtain ⟨v0, q0⟩ := hI2.cells (j := k * 5) (by omega)
          obtain ⟨v1, q1⟩ := hI2.cells (j := k * 5 + 1) (by omega)
          obtain ⟨v2, q2⟩ := hI2.cells (j := k * 5 + 2) (by omega)
          obtain ⟨v3, q3⟩ := hI2.cells (j := k * 5 + 3) (by omega)
          obtain ⟨v4, q4⟩ := hI2.cells (j := k * 5 + 4) (by omega)
          have f0 := hI2.frozen (k * 5)
          have f1 := hI2.frozen (k * 5 + 1)
          have f2 := hI2.frozen (k * 5 + 2)
          have f3 := hI2.frozen (k * 5 + 3)
          have f4 := hI2.frozen (k * 5 + 4)
          have hF := hI2.word h1 h2 (.int .i64 99) (.string ⟨#[35]⟩) (.bool false) (.slice none 0 0) (.int .i64 (-7))
          unfold fiveSet at hF
          go_wp2_with fail
          exact ⟨⟨k + 1, by omega, by go_num, hF⟩, by simp [intOf]; omega⟩
      · go_quiet (fail)
        go_wp2_with fail
        have hI2 := hI.drewN nq
        have hy2 : Row (wr.drewN nq) b ys := hy
        clear hc3 hy hI
        generalize wr.drewN nq = wq at *
        go_loopw [4] (fun i wi => ∃ (j : Nat) (zs : List Int), j ≤ cp ∧ i = .int .i64 j ∧ zs.length = cp ∧ Row wi b zs ∧ Only b wq wi) (fun i _ => cp - (intOf i).toNat)
        case atStart => exact ⟨0, ys, Nat.zero_le _, rfl, hyl, hy2, Only.refl _ _⟩
        case round =>
          obtain ⟨j, zs, hj, rfl, hzl, hz, ho⟩ := hrel
          by_cases hjl : j < cp
          · have c0 := hz.cell (i := j) (by omega)
            have f0 := hz.frozen j
            go_wp2_with fail
            exact ⟨⟨j + 1, _, by omega, by go_num, by rw [List.length_set]; exact hzl, hz.set j _, ho.trans (Only.set _ _ _ _)⟩, by simp [intOf]; omega⟩
          · obtain rfl : j = cp := by omega
            have hI3 := hI2.inner ho hb1 hb2 hy2 hz (by omega)
            obtain ⟨v0, q0⟩ := hI3.cells (j := k * 5) (by omega)
            obtain ⟨v1, q1⟩ := hI3.cells (j := k * 5 + 1) (by omega)
            obtain ⟨v2, q2⟩ := hI3.cells (j := k * 5 + 2) (by omega)
            obtain ⟨v3, q3⟩ := hI3.cells (j := k * 5 + 3) (by omega)
            obtain ⟨v4, q4⟩ := hI3.cells (j := k * 5 + 4) (by omega)
            have f0 := hI3.frozen (k * 5)
            have f1 := hI3.frozen (k * 5 + 1)
            have f2 := hI3.frozen (k * 5 + 2)
            have f3 := hI3.frozen (k * 5 + 3)
            have f4 := hI3.frozen (k * 5 + 4)
            have hF := hI3.word h1 h2 (.int .i64 99) (.string ⟨#[35]⟩) (.bool false) (.slice none 0 0) (.int .i64 (-7))
            unfold fiveSet at hF
            go_wp2_with fail
            exact ⟨⟨k + 1, by omega, by go_num, hF⟩, by simp [intOf]; omega⟩
    · obtain rfl : k = cap := by omega
      go_wp2_with fail
      go_end0
      exact ⟨rfl, hI.keep⟩
end Go.Proofs.YtnikdfmdcoidmaaDoor
