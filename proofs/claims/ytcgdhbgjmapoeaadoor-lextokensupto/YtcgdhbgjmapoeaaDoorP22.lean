/-
 Several texts in one: XL, XM, LLexTokens.
-/
import Derived.Test.YtcgdhbgjmapoeaaDoorP20
import Derived.Test.YtcgdhbgjmapoeaaDoorP09
namespace Go.Proofs.YtcgdhbgjmapoeaaDoor
open Go.RowKit Go.Shelf

/-- the worlds differ at blocks from lo up to hi alone -/
structure Spo (lo hi : Nat) (w w' : World) : Prop where
 os : w'.os = w.os
 tape : w'.tape = w.tape
 output : w'.output = w.output
 size : w'.heap.size = w.heap.size
 block : ∀ b, (b < lo ∨ hi ≤ b) → w'.heap[b]? = w.heap[b]?
theorem Spo.refl (lo hi : Nat) (w : World) : Spo lo hi w w := ⟨rfl, rfl, rfl, rfl, fun _ _ => rfl⟩
theorem Spo.drewN {lo hi : Nat} {w w' : World} (h : Spo lo hi w w') (n : Nat) : Spo lo hi w (w'.drewN n) := ⟨h.os, h.tape, h.output, h.size, h.block⟩
theorem Spo.only {lo hi b : Nat} {w w' w'' : World} (h : Spo lo hi w w') (ho : Only b w' w'') (h1 : lo ≤ b) (h2 : b < hi) : Spo lo hi w w'' :=
 ⟨ho.os.trans h.os, ho.tape.trans h.tape, ho.output.trans h.output, ho.size.trans h.size, fun k hk => (ho.block k (by omega)).trans (h.block k hk)⟩

/-- where limbs may be written -/
def MgS (lo hi : Nat) (w : World) (ad : Option Addr) (len cap : Nat) : Prop := (ad = none ∧ len = 0 ∧ cap = 0) ∨ ∃ b ys, ad = some ⟨b, 0, none⟩ ∧ lo ≤ b ∧ b < hi ∧ Row w b ys ∧ ys.length = cap ∧ len ≤ cap ∧ cap ≤ 9223372036854775807
theorem mgs_of {w W : World} {x : TM} (h : Mg w W x) : MgS w.heap.size W.heap.size W x.ad x.len x.cap := by
 obtain ⟨⟨_, ⟨h1, h2, h3, _⟩ | ⟨b, ys, h1, h2, h3, _, h5, h6, h7, _⟩⟩, _⟩ := h
 ·exact .inl ⟨h1, h2, h3⟩
 ·exact .inr ⟨b, ys, h1, h2, h3.lt, h3, h5, h6, h7⟩
/-- rows of limbs are rows of limbs still -/
def RowsOk (w w' : World) : Prop := ∀ b ys, Row w b ys → ∃ zs, Row w' b zs ∧ zs.length = ys.length
theorem RowsOk.refl (w : World) : RowsOk w w := fun _ ys h => ⟨ys, h, rfl⟩
theorem MgS.ok {lo hi : Nat} {w w' : World} {ad : Option Addr} {len cap : Nat} (h : MgS lo hi w ad len cap) (hk : RowsOk w w') : MgS lo hi w' ad len cap := by
 rcases h with h | ⟨b, ys, h1, h2, h3, h4, h5, h6⟩
 ·exact .inl h
 ·obtain ⟨zs, hz, hl⟩ := hk b ys h4
  exact .inr ⟨b, zs, h1, h2, h3, hz, by omega, h6⟩
theorem rowsOk_only {w w' : World} {b : Nat} {zs : List Int} (ho : Only b w w') (hr : ∀ ys, Row w b ys → ys.length = zs.length) (hz : Row w' b zs) : RowsOk w w' := by
 intro k ys hk
 by_cases e : k = b
 ·subst e; exact ⟨zs, hz, (hr ys hk).symm⟩
 ·exact ⟨ys, (ho.block k e).trans hk, rfl⟩
theorem row_len {w : World} {b : Nat} {xs ys : List Int} (h : Row w b xs) (k : Row w b ys) : ys.length = xs.length := by
 have e : some (Obj.cells (U xs) 55 (0, 0)) = some (Obj.cells (U ys) 55 (0, 0)) := h.symm.trans k
 have := congrArg Array.size (Obj.cells.inj (Option.some.inj e)).1
 rw [U_size, U_size] at this
 omega

/-- what is so when i words are written over -/
structure SpI (w0 : World) (lo hi g cap i : Nat) (wr : World) : Prop where
 keep : Spo lo hi w0 wr
 row : ∃ cur, wr.heap[g]? = some (.cells cur 44 (0, 0)) ∧ cur.size = cap * 5
 rest : ∀ j, i * 5 ≤ j → j < cap * 5 → wr.cell? ⟨g, j, none⟩ = w0.cell? ⟨g, j, none⟩
 mags : RowsOk w0 wr
theorem SpI.inner {w0 : World} {lo hi g cap i b : Nat} {wr wr' : World} {ys zs : List Int} (h : SpI w0 lo hi g cap i wr) (ho : Only b wr wr') (h1 : lo ≤ b) (h2 : b < hi) (hy : Row wr b ys) (hz : Row wr' b zs) (hl : zs.length = ys.length) : SpI w0 lo hi g cap i wr' := by
 obtain ⟨cur, hc, hs⟩ := h.row
 have hne : g ≠ b := by
  rintro rfl
  have hy' : wr.heap[g]? = some (.cells (U ys) 55 (0, 0)) := hy
  rw [hc] at hy'
  exact absurd (Obj.cells.inj (Option.some.inj hy')).2.1 (by decide)
 refine ⟨h.keep.only ho h1 h2, ⟨cur, (ho.block g hne).trans hc, hs⟩, fun j hj1 hj2 => ?_, ?_⟩
 ·exact (World.cell?_of_block (w := wr) (a := ⟨g, j, none⟩) (ho.block g hne)).trans (h.rest j hj1 hj2)
 ·intro k us hk
  obtain ⟨vs, hv, hvl⟩ := h.mags k us hk
  obtain ⟨ts, ht, htl⟩ := rowsOk_only ho (fun us hu => by rw [row_len hy hu]; omega) hz k vs hv
  exact ⟨ts, ht, by omega⟩
theorem SpI.drewN {w0 : World} {lo hi g cap i : Nat} {wr : World} (h : SpI w0 lo hi g cap i wr) (n : Nat) : SpI w0 lo hi g cap i (wr.drewN n) := ⟨h.keep.drewN n, h.row, h.rest, h.mags⟩

def fiveSet (w : World) (g i : Nat) (u0 u1 u2 u3 u4 : Value) : World := ((((w.setCell ⟨g, i * 5, none⟩ u0).setCell ⟨g, i * 5 + 1, none⟩ u1).setCell ⟨g, i * 5 + 2, none⟩ u2).setCell ⟨g, i * 5 + 3, none⟩ u3).setCell ⟨g, i * 5 + 4, none⟩ u4
theorem SpI.word {w0 : World} {lo hi g cap i : Nat} {wr : World} (h : SpI w0 lo hi g cap i wr) (h1 : lo ≤ g) (h2 : g < hi) (u0 u1 u2 u3 u4 : Value) : SpI w0 lo hi g cap (i + 1) (fiveSet wr g i u0 u1 u2 u3 u4) := by
 have ho : Only g wr (fiveSet wr g i u0 u1 u2 u3 u4) := ((((Only.set g (i * 5) wr u0).trans (Only.set g (i * 5 + 1) _ u1)).trans (Only.set g (i * 5 + 2) _ u2)).trans (Only.set g (i * 5 + 3) _ u3)).trans (Only.set g (i * 5 + 4) _ u4)
 obtain ⟨cur, hc, hs⟩ := h.row
 have y0 := heap_setCell_same wr g (i * 5) _ 44 u0 hc
 have y1 := heap_setCell_same _ g (i * 5 + 1) _ 44 u1 y0
 have y2 := heap_setCell_same _ g (i * 5 + 2) _ 44 u2 y1
 have y3 := heap_setCell_same _ g (i * 5 + 3) _ 44 u3 y2
 have y4 := heap_setCell_same _ g (i * 5 + 4) _ 44 u4 y3
 refine ⟨h.keep.only ho h1 h2, ⟨_, y4, by simp [hs]⟩, fun j hj1 hj2 => ?_, ?_⟩
 ·rw [← h.rest j (by omega) hj2]
  rw [cell_of_row _ g j _ _ (0, 0) hc]
  have := cell_of_row _ g j _ _ (0, 0) y4
  refine this.trans ?_
  rw [Array.getElem?_setIfInBounds_ne (by omega), Array.getElem?_setIfInBounds_ne (by omega), Array.getElem?_setIfInBounds_ne (by omega), Array.getElem?_setIfInBounds_ne (by omega), Array.getElem?_setIfInBounds_ne (by omega)]
 ·intro k us hk
  obtain ⟨vs, hv, hvl⟩ := h.mags k us hk
  have hv' : wr.heap[k]? = some (.cells (U vs) 55 (0, 0)) := hv
  exact ⟨vs, (ho.block k (fun e => by subst e; rw [hc] at hv'; exact absurd (Obj.cells.inj (Option.some.inj hv')).2.1 (by decide))).trans hv, hvl⟩
theorem SpI.cells {w0 : World} {lo hi g cap i : Nat} {wr : World} (h : SpI w0 lo hi g cap i wr) {j : Nat} (hj : j < cap * 5) : ∃ u, wr.cell? ⟨g, j, none⟩ = some u := by
 obtain ⟨cur, hc, hs⟩ := h.row
 rw [cell_of_row wr g j _ _ (0, 0) hc, Array.getElem?_eq_getElem (by omega)]
 exact ⟨_, rfl⟩
theorem SpI.frozen {w0 : World} {lo hi g cap i : Nat} {wr : World} (h : SpI w0 lo hi g cap i wr) (j : Nat) : wr.frozen? ⟨g, j, none⟩ = false := by
 obtain ⟨cur, hc, _⟩ := h.row
 exact frozen_of_row wr g j _ _ hc

set_option maxRecDepth 100000 in
set_option maxHeartbeats 6400000 in
theorem spoil_some {w0 : World} {lo hi g n cap : Nat} (h : SpI w0 lo hi g cap 0 w0) (h1 : lo ≤ g) (h2 : g < hi) (hnc : n ≤ cap) (hcb : cap ≤ 9223372036854775807)
  (hm : ∀ i, i < cap → ∃ ad len cp, w0.cell? ⟨g, i * 5 + 3, none⟩ = some (.slice ad len cp) ∧ MgS lo hi w0 ad len cp) :
  Calls Tryd.prog 11 #[.slice (some ⟨g, 0, none⟩) n cap] w0 fun e w' => e = .returned (.tuple #[]) ∧ Spo lo hi w0 w' := by
 replace hm := hide hm
 go_enter Tryd.func11, Tryd.ntmps11
 go_wp2_with fail
 go_loopw [2] (fun i wr => ∃ k : Nat, k ≤ cap ∧ i = .int .i64 k ∧ SpI w0 lo hi g cap k wr) (fun i _ => cap - (intOf i).toNat)
 case atStart => exact ⟨0, Nat.zero_le _, rfl, h⟩
 case round =>
  obtain ⟨k, hk, rfl, hI⟩ := hrel
  clear h
  by_cases hkl : k < cap
  ·obtain ⟨ad, len, cp, hc0, hM0⟩ := hm.out k hkl
   have hc3 := (hI.rest (k * 5 + 3) (by omega) (by omega)).trans hc0
   have hM := hM0.ok hI.mags
   clear hc0 hM0
   go_wp2_with fail
   rcases hM with ⟨rfl, rfl, rfl⟩ | ⟨b, ys, rfl, hb1, hb2, hy, hyl, hlc, hcm⟩
   ·go_quiet (fail)
    go_wp2_with fail
    have hI2 := hI.drewN nq
    clear hc3
    generalize wr.drewN nq = wq at *
    go_loop [4] (fun i => i = .int .i64 0) (fun _ => 0)
    case atStart => rfl
    case round =>
     obtain rfl := hrel
     obtain ⟨v0, q0⟩ := hI2.cells (j := k * 5) (by omega)
     obtain ⟨v1, q1⟩ := hI2.cells (j := k * 5 + 1) (by omega)
     obtain ⟨v2, q2⟩ := hI2.cells (j := k * 5 + 2) (by omega)
     obtain ⟨v3, q3⟩ := hI2.cells (j := k * 5 + 3) (by omega)
     obtain ⟨v4, q4⟩ := hI2.cells (j := k * 5 + 4) (by omega)
     have f0 := hI2.frozen (k * 5)
     have f1 := hI2.frozen (k * 5 + 1)
     have f2 := hI2.frozen (k * 5 + 2)
     have f3 := hI2.frozen (k * 5 + 3)
     have f4 := hI2.frozen (k * 5 + 4)
     have hF := hI2.word h1 h2 (.int .i64 99) (.string ⟨#[35]⟩) (.bool false) (.slice none 0 0) (.int .i64 (-7))
     unfold fiveSet at hF
     go_wp2_with fail
     exact ⟨⟨k + 1, by omega, by go_num, hF⟩, by simp [intOf]; omega⟩
   ·go_quiet (fail)
    go_wp2_with fail
    have hI2 := hI.drewN nq
    have hy2 : Row (wr.drewN nq) b ys := hy
    clear hc3 hy hI
    generalize wr.drewN nq = wq at *
    go_loopw [4] (fun i wi => ∃ (j : Nat) (zs : List Int), j ≤ cp ∧ i = .int .i64 j ∧ zs.length = cp ∧ Row wi b zs ∧ Only b wq wi) (fun i _ => cp - (intOf i).toNat)
    case atStart => exact ⟨0, ys, Nat.zero_le _, rfl, hyl, hy2, Only.refl _ _⟩
    case round =>
     obtain ⟨j, zs, hj, rfl, hzl, hz, ho⟩ := hrel
     by_cases hjl : j < cp
     ·have c0 := hz.cell (i := j) (by omega)
      have f0 := hz.frozen j
      go_wp2_with fail
      exact ⟨⟨j + 1, _, by omega, by go_num, by rw [List.length_set]; exact hzl, hz.set j _, ho.trans (Only.set _ _ _ _)⟩, by simp [intOf]; omega⟩
     ·obtain rfl : j = cp := by omega
      have hI3 := hI2.inner ho hb1 hb2 hy2 hz (by omega)
      obtain ⟨v0, q0⟩ := hI3.cells (j := k * 5) (by omega)
      obtain ⟨v1, q1⟩ := hI3.cells (j := k * 5 + 1) (by omega)
      obtain ⟨v2, q2⟩ := hI3.cells (j := k * 5 + 2) (by omega)
      obtain ⟨v3, q3⟩ := hI3.cells (j := k * 5 + 3) (by omega)
      obtain ⟨v4, q4⟩ := hI3.cells (j := k * 5 + 4) (by omega)
      have f0 := hI3.frozen (k * 5)
      have f1 := hI3.frozen (k * 5 + 1)
      have f2 := hI3.frozen (k * 5 + 2)
      have f3 := hI3.frozen (k * 5 + 3)
      have f4 := hI3.frozen (k * 5 + 4)
      have hF := hI3.word h1 h2 (.int .i64 99) (.string ⟨#[35]⟩) (.bool false) (.slice none 0 0) (.int .i64 (-7))
      unfold fiveSet at hF
      go_wp2_with fail
      exact ⟨⟨k + 1, by omega, by go_num, hF⟩, by simp [intOf]; omega⟩
  ·obtain rfl : k = cap := by omega
   go_wp2_with fail
   go_end0
   exact ⟨rfl, hI.keep⟩
end Go.Proofs.YtcgdhbgjmapoeaaDoor

namespace Go.Proofs.YtcgdhbgjmapoeaaDoor
open Go.RowKit Go.Shelf

set_option maxRecDepth 100000 in
set_option maxHeartbeats 1600000 in
theorem spoil3_none (w : World) :
  Calls Tryd.prog 11 #[.slice none 0 0] w fun e w' => e = .returned (.tuple #[]) ∧ w = w' := by
 go_enter Tryd.func11, Tryd.ntmps11
 go_wp2
 refine wp_loop_rounds 1 ?_
 rw [rounds_succ]
 go_wp2
 go_end0
 exact ⟨rfl, rfl⟩
theorem Row.later {w w' : World} {b : Nat} {xs : List Int} (h : Row w b xs) (hb : Below w.heap.size w w') : Row w' b xs := block_later h hb
theorem spoil3_any {wA0 wA1 W : World} {v : Value} {xs : List TM} (hrow : wA1.ownsRow wA0.heap.size 44 5 v xs.length (xs.flatMap V5)) (hmg : ∀ x ∈ xs, Mg wA0 wA1 x) (hz : SpZ wA1 tokZ v) (hb : Below wA1.heap.size wA1 W) :
  Calls Tryd.prog 11 #[v] W fun e w' => e = .returned (.tuple #[]) ∧ Spo wA0.heap.size wA1.heap.size W w' := by
 have hown := hrow
 obtain ⟨h1, ⟨rfl, _⟩ | ⟨g, cap, cur, rfl, hbg, hg, hle, hm, hsz, ht⟩⟩ := hrow
 ·exact (spoil3_none W).mono (by rintro e w' ⟨rfl, rfl⟩; exact ⟨rfl, Spo.refl _ _ _⟩)
 ·have hgl := (Array.getElem?_eq_some_iff.1 hg).1
  have hgW := block_later hg hb
  refine spoil_some ⟨Spo.refl _ _ _, ⟨cur, hgW, hsz⟩, fun _ _ _ => rfl, RowsOk.refl _⟩ hbg hgl hle (by unfold maxLen at hm; omega) (fun i hi => ?_)
  have hcell : W.cell? ⟨g, i * 5 + 3, none⟩ = wA1.cell? ⟨g, i * 5 + 3, none⟩ := hb.cell (p := ⟨g, i * 5 + 3, none⟩) hgl
  by_cases hin : i < xs.length
  ·have hc : wA1.cell? ⟨g, i * 5 + 3, none⟩ = some (.slice xs[i].ad xs[i].len xs[i].cap) := by
    obtain ⟨g', cap', e, _, _, _, _, hcs⟩ := own_cells hown (by omega)
    obtain rfl : g = g' := by simp only [Value.slice.injEq, Option.some.injEq, Addr.mk.injEq] at e; exact e.1.1
    exact hcs i 3 hin (by decide)
   refine ⟨_, _, _, hcell.trans hc, ?_⟩
   rcases mgs_of (hmg xs[i] (List.getElem_mem hin)) with h | ⟨b, ys, e1, e2, e3, e4, e5⟩
   ·exact .inl h
   ·exact .inr ⟨b, ys, e1, e2, e3, e4.later hb, e5⟩
  ·have hc := hz g _ cap rfl (i * 5 + 3) (by show _ * 5 ≤ _; omega) (by show _ < cap * 5; omega)
   refine ⟨none, 0, 0, hcell.trans (hc.trans ?_), .inl ⟨rfl, rfl, rfl⟩⟩
   have e : (i * 5 + 3) % tokZ.size = 3 := by show (i * 5 + 3) % 5 = 3; omega
   rw [e]
   rfl

theorem Spo.below {lo hi B : Nat} {w w' : World} (h : Spo lo hi w w') (hB : B ≤ lo) : Below B w w' := ⟨h.os, h.tape, h.output, Nat.le_of_eq h.size.symm, fun k hk => h.block k (.inl (by omega))⟩
theorem own_spo {W W' : World} {base : Nat} {e : TypeId} {size : Nat} {v : Value} {n : Nat} {xs : List Value} {lo hi : Nat} (h : W.ownsRow base e size v n xs) (hs : Spo lo hi W W') (hk : ∀ g, v.ownBlock = some g → g < lo ∨ hi ≤ g) : W'.ownsRow base e size v n xs := by
 obtain ⟨h1, h2⟩ := h
 refine ⟨h1, ?_⟩
 rcases h2 with h2 | ⟨g, cap, cur, rfl, h4, h5, h6⟩
 ·exact .inl h2
 ·exact .inr ⟨g, cap, cur, rfl, h4, (hs.block g (hk g rfl)).trans h5, h6⟩
theorem mg_spo {w W W' : World} {x : TM} {lo hi : Nat} (h : Mg w W x) (hB : Below w.heap.size w W') (hs : Spo lo hi W W') (hk : ∀ b, blk x.ad = some b → b < lo ∨ hi ≤ b) : Mg w W' x := ⟨h.1.keep hB (fun b hb => hs.block b (hk b hb)), h.2⟩

theorem reftokens_u (s : ByteArray) (w : World) (hs : s.size ≤ 1099511627) :
  Calls Tryd.prog 8 #[.string s] w fun e w' => ∃ (xs : List TM) (va : Option Addr) (vn vc : Nat) (x : Int) (p : Nat), TokRes s xs x p ∧ e = .returned (.tuple #[.slice va vn vc, .agg #[.int .i64 x, .int .i64 p]]) ∧ w'.ownsRow w.heap.size 46 5 (.slice va vn vc) xs.length (xs.flatMap V5) ∧ (∀ x ∈ xs, Mg w w' x) ∧ Below w.heap.size w w' := by
 refine (reftokens_any s w hs).mono ?_
 rintro e w1 (⟨xs, v, hx, rfl, hrow, hmg, hb⟩ | ⟨ts, x, p, hx, hx0, rfl, hb⟩)
 ·obtain ⟨a, m, c, rfl⟩ := own_slice hrow
  exact ⟨xs, a, m, c, 0, 0, .inl ⟨rfl, rfl, hx⟩, rfl, hrow, hmg, hb⟩
 ·exact ⟨[], none, 0, 0, x, p, .inr ⟨hx0, rfl, ts, hx⟩, rfl, World.ownsRow_nil _ _ _ _, fun x hx => (by cases hx), hb⟩
end Go.Proofs.YtcgdhbgjmapoeaaDoor

namespace Go.Proofs.YtcgdhbgjmapoeaaDoor
open Go.RowKit Go.Shelf

set_option maxRecDepth 100000 in
set_option maxHeartbeats 6400000 in
theorem lexTokens_walk {s : ByteArray} {w : World} (hs : s.size ≤ 1048576) (hS : Sgn w) :
  Calls Tryd.prog 3 #[.string s] w fun e w' => e = .returned (.bool true) ∧ Below w.heap.size w w' := by
 go_enter Tryd.func3, Tryd.ntmps3
 go_wp2_with fail
 refine (reftokens_u s w (by omega)).mono ?_
 rintro e w1 ⟨ys, ya, yn, yc, x, p, hy, rfl, yrow, ymg, b1⟩
 have ylen := tokRes_len hy
 go_wp2_with fail
 have n1 := heap_alloc_new w1 (.cells #[.int .i64 x, .int .i64 p] 25)
 have k1 := below_alloc w1 (.cells #[.int .i64 x, .int .i64 p] 25)
 have s1 : w1.heap.size < (w1.alloc (.cells #[.int .i64 x, .int .i64 p] 25)).heap.size := by simp
 generalize hp1 : w1.heap.size = p1 at n1 s1
 replace hp1 := hide hp1
 have ylt : ∀ g, (Value.slice ya yn yc).ownBlock = some g → g < p1 := fun g hg => by rw [← hp1.out]; exact (yrow.lt g hg).2
 have ymlt : ∀ x ∈ ys, ∀ b, blk x.ad = some b → b < p1 := fun x hx b hb => by rw [← hp1.out]; exact ((ymg x hx).1.lt hb).2
 generalize hw1a : w1.alloc (.cells #[.int .i64 x, .int .i64 p] 25) = wa at *
 have yrow1 := owns_later yrow k1
 have ymg1 : ∀ x ∈ ys, Mg w wa x := fun x hx => (ymg x hx).later k1
 have ba := grow_step k1 b1
 clear yrow ymg b1 k1 hw1a
 refine (tokens_u s wa (by omega) (hS.below ba)).mono ?_
 rintro e w2 ⟨xs, xa, xn, xc, x', p', hx, rfl, xrow, xmg, xz, b2⟩
 obtain ⟨hxd, rfl, rfl⟩ := tokRes_unique hx hy
 have HXD := hide hxd
 clear hxd hx
 go_wp2_with fail
 have n2 := heap_alloc_new w2 (.cells #[.int .i64 x', .int .i64 p'] 25)
 have k2 := below_alloc w2 (.cells #[.int .i64 x', .int .i64 p'] 25)
 have s2 : w2.heap.size < (w2.alloc (.cells #[.int .i64 x', .int .i64 p'] 25)).heap.size := by simp
 generalize hp2 : w2.heap.size = p2 at n2 s2
 replace hp2 := hide hp2
 generalize hw2a : w2.alloc (.cells #[.int .i64 x', .int .i64 p'] 25) = wb at *
 have kab := grow_step k2 b2
 clear hw2a
 refine (tokens_u s wb (by omega) (hS.below (grow_step kab ba))).mono ?_
 rintro e w3 ⟨zs, za, zn, zc, x3, p3', hz, rfl, zrow, zmg, -, b3⟩
 obtain ⟨hzd, rfl, rfl⟩ := tokRes_unique hz hy
 have HZD := hide hzd
 have zlen := tokRes_len hz
 clear hzd hz
 have ka3 := grow_step b3 kab
 have m1 := block_later n1 ka3
 have m2 := block_later n2 b3
 have lt1 := (Array.getElem?_eq_some_iff.1 m1).1
 have lt2 := (Array.getElem?_eq_some_iff.1 m2).1
 have c10 : w3.cell? ⟨p1, 0, none⟩ = some (.int .i64 x3) := cell_of_row w3 _ 0 _ _ (0, 0) m1
 have c11 : w3.cell? ⟨p1, 1, none⟩ = some (.int .i64 (p3' : Nat)) := cell_of_row w3 _ 1 _ _ (0, 0) m1
 have c20 : w3.cell? ⟨p2, 0, none⟩ = some (.int .i64 x3) := cell_of_row w3 _ 0 _ _ (0, 0) m2
 have c21 : w3.cell? ⟨p2, 1, none⟩ = some (.int .i64 (p3' : Nat)) := cell_of_row w3 _ 1 _ _ (0, 0) m2
 have k3 := below_alloc w3 (.cells #[.int .i64 x3, .int .i64 p3'] 25)
 have kbc := grow_step k3 b3
 have kac := grow_step kbc kab
 have k2c := grow_step kbc k2
 have xlen : xs.length = ys.length := by have := congrArg List.length HXD.out; simpa using this
 replace xlen := hide xlen
 have A1 := are_t (owns_later xrow k2c) (owns_later yrow1 kac) (fun x hx => ⟨_, (xmg x hx).later k2c⟩) (fun x hx => ⟨_, (ymg1 x hx).later kac⟩) HXD.out (by rw [xlen.out]; omega)
 replace A1 := hide A1
 replace xmg := hide xmg
 replace ymg1 := hide ymg1
 replace zmg := hide zmg
 replace ylt := hide ylt
 replace ymlt := hide ymlt
 replace xz := hide xz
 go_wp2_with fail
 refine A1.out.mono ?_
 rintro e w4 ⟨rfl, b4⟩
 generalize w3.alloc (.cells #[.int .i64 x3, .int .i64 p3'] 25) = wc at *
 have k24 := grow_step b4 k2c
 have ka4 := grow_step b4 kac
 have kb4 := grow_step b4 kbc
 have k34 := grow_step b4 k3
 go_wp2_with fail
 refine (spoil3_any xrow xmg.out xz.out k24).mono ?_
 rintro e w5 ⟨rfl, hsp⟩
 have bsp : Below wa.heap.size w4 w5 := hsp.below (Nat.le_refl _)
 have kw5 : Below w.heap.size w w5 := (grow_step ka4 ba).trans (hsp.below ba.size)
 have zrow5 : w5.ownsRow wb.heap.size 44 5 (.slice za zn zc) zs.length (zs.flatMap V5) := own_spo (owns_later zrow k34) hsp (fun g hg => .inr (by have h1 := (zrow.lt g hg).1; have h2 := hp2.out; omega))
 have zmg5 : ∀ x ∈ zs, Mg wa w5 x := fun x hx => by
  have h0 := (zmg.out x hx).later k34
  exact mg_spo ⟨h0.1.outer kab, h0.2⟩ (ka4.trans bsp) hsp (fun b hb => .inr (by have h1 := ((zmg.out x hx).1.lt hb).1; have h2 := hp2.out; omega))
 have yrow5 : w5.ownsRow w.heap.size 46 5 (.slice ya yn yc) ys.length (ys.flatMap V5) := own_spo (owns_later yrow1 ka4) hsp (fun g hg => .inl (by have := ylt.out g hg; omega))
 have ymg5 : ∀ x ∈ ys, Mg w w5 x := fun x hx => mg_spo ((ymg1.out x hx).later ka4) kw5 hsp (fun b hb => .inl (by have := ymlt.out x hx b hb; omega))
 have A2 := are_t zrow5 yrow5 (fun x hx => ⟨_, zmg5 x hx⟩) (fun x hx => ⟨_, ymg5 x hx⟩) HZD.out (by omega)
 replace A2 := hide A2
 replace ymg5 := hide ymg5
 clear A1 zmg5 zrow5 zmg zrow xrow xmg xz yrow1 ymg1 ylt ymlt c10 c11 c20 c21 m1 m2 n1 n2 k2 k3 k34 k24 kb4 kbc kac k2c ka3 kab ka4 b2 b3 b4 hsp bsp lt1 lt2 s1 s2
 go_wp2_with fail
 refine A2.out.mono ?_
 rintro e w6 ⟨rfl, b6⟩
 have kw6 := grow_step b6 kw5
 go_wp2_with fail
 refine (tokens_u s w6 (by omega) (hS.below kw6)).mono ?_
 rintro e w7 ⟨cs, ca, cn, cc, x7, p7, hc, rfl, crow, cmg, -, b7⟩
 obtain ⟨hcd, rfl, rfl⟩ := tokRes_unique hc hy
 have clen := tokRes_len hc
 have k7 := below_alloc w7 (.cells #[.int .i64 x7, .int .i64 p7] 25)
 have k67 := grow_step k7 b7
 have k57 := grow_step k67 b6
 have A3 := are_t (owns_later crow k7) (owns_later yrow5 k57) (fun x hx => ⟨_, (cmg x hx).later k7⟩) (fun x hx => ⟨_, (ymg5.out x hx).later k57⟩) hcd (by omega)
 replace A3 := hide A3
 have kw7 := grow_step k67 kw6
 clear hc hcd cmg crow ymg5 A2 yrow5 hy HZD HXD
 go_wp2_with fail
 refine A3.out.mono ?_
 rintro e w8 ⟨rfl, b8⟩
 have kw8 := grow_step b8 kw7
 go_wp2_with fail
 refine (known3_any w8 (hS.below kw8)).mono ?_
 rintro e w9 ⟨rfl, b9⟩
 go_wp2_with fail
 go_ret
 exact ⟨rfl, grow_step b9 kw8⟩
end Go.Proofs.YtcgdhbgjmapoeaaDoor
