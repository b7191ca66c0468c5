/-
  Layer 3: words as they come, in one form; what stays where words are written over.
-/
import Derived.Test.YtnikdfmdcoidmaaDoorXL
namespace Go.Proofs.YtnikdfmdcoidmaaDoor
open Go.RowKit Go.Shelf

set_option maxRecDepth 100000 in
set_option maxHeartbeats 1600000 in
theorem spoil3_none (w : World) :
    Calls Tryd.prog 19 #[.slice none 0 0] w fun e w' => e = .returned (.tuple #[]) ∧ w = w' := by
  go_enter Tryd.func19, Tryd.ntmps19
  go_wp2
  refine wp_loop_rounds 1 ?_
  rw [rounds_succ]
  go_wp2
  go_end0
  exact ⟨rfl, rfl⟩
theorem Row.later {w w' : World} {b : Nat} {xs : List Int} (h : Row w b xs) (hb : Below w.heap.size w w') : Row w' b xs := block_later h hb
theorem spoil3_any {wA0 wA1 W : World} {v : Value} {xs : List TM} (hrow : wA1.ownsRow wA0.heap.size 52 5 v xs.length (xs.flatMap V5)) (hmg : ∀ x ∈ xs, Mg wA0 wA1 x) (hz : SpZ wA1 tokZ v) (hb : Below wA1.heap.size wA1 W) :
    Calls Tryd.prog 19 #[v] W fun e w' => e = .returned (.tuple #[]) ∧ Spo wA0.heap.size wA1.heap.size W w' := by
  have hown := hrow
  obtain ⟨h1, ⟨rfl, _⟩ | ⟨g, cap, cur, rfl, hbg, hg, hle, hm, hsz, ht⟩⟩ := hrow
  · exact (spoil3_none W).mono (by rintro e w' ⟨rfl, rfl⟩; exact ⟨rfl, Spo.refl _ _ _⟩)
  · have hgl := (Array.getElem?_eq_some_iff.1 hg).1
    have hgW := block_later hg hb
    refine spoil_some ⟨Spo.refl _ _ _, ⟨cur, hgW, hsz⟩, fun _ _ _ => rfl, RowsOk.refl _⟩ hbg hgl hle (by unfold maxLen at hm; omega) (fun i hi => ?_)
    have hcell : W.cell? ⟨g, i * 5 + 3, none⟩ = wA1.cell? ⟨g, i * 5 + 3, none⟩ := hb.cell (p := ⟨g, i * 5 + 3, none⟩) hgl
    by_cases hin : i < xs.length
    · have hc : wA1.cell? ⟨g, i * 5 + 3, none⟩ = some (.slice xs[i].ad xs[i].len xs[i].cap) := by
        obtain ⟨g', cap', e, _, _, _, _, hcs⟩ := own_cells hown (by omega)
        obtain rfl : g = g' := by simp only [Value.slice.injEq, Option.some.injEq, Addr.mk.injEq] at e; exact e.1.1
        exact hcs i 3 hin (by decide)
      refine ⟨_, _, _, hcell.trans hc, ?_⟩
      rcases mgs_of (hmg xs[i] (List.getElem_mem hin)) with h | ⟨b, ys, e1, e2, e3, e4, e5⟩
      · exact .inl h
      · exact .inr ⟨b, ys, e1, e2, e3, e4.later hb, e5⟩
    · have hc := hz g _ cap rfl (i * 5 + 3) (by show _ * 5 ≤ _; omega) (by show _ < cap * 5; omega)
      refine ⟨none, 0, 0, hcell.trans (hc.trans ?_), .inl ⟨rfl, rfl, rfl⟩⟩
      have e : (i * 5 + 3) % tokZ.size = 3 := by show (i * 5 + 3) % 5 = 3; omega
      rw [e]
      rfl

theorem Spo.below {lo hi B : Nat} {w w' : World} (h : Spo lo hi w w') (hB : B ≤ lo) : Below B w w' := ⟨h.os, h.tape, h.output, Nat.le_of_eq h.size.symm, fun k hk => h.block k (.inl (by omega))⟩
theorem own_spo {W W' : World} {base : Nat} {e : TypeId} {size : Nat} {v : Value} {n : Nat} {xs : List Value} {lo hi : Nat} (h : W.ownsRow base e size v n xs) (hs : Spo lo hi W W') (hk : ∀ g, v.ownBlock = some g → g < lo ∨ hi ≤ g) : W'.ownsRow base e size v n xs := by
  obtain ⟨h1, h2⟩ := h
  refine ⟨h1, ?_⟩
  rcases h2 with h2 | ⟨g, cap, cur, rfl, h4, h5, h6⟩
  · exact .inl h2
  · exact .inr ⟨g, cap, cur, rfl, h4, (hs.block g (hk g rfl)).trans h5, h6⟩
theorem mg_spo {w W W' : World} {x : TM} {lo hi : Nat} (h : Mg w W x) (hB : Below w.heap.size w W') (hs : Spo lo hi W W') (hk : ∀ b, blk x.ad = some b → b < lo ∨ hi ≤ b) : Mg w W' x := ⟨h.1.keep hB (fun b hb => hs.block b (hk b hb)), h.2⟩

/-- what Tokens answers -/
def TokRes (s : ByteArray) (xs : List TM) (x : Int) (p : Nat) : Prop := (x = 0 ∧ p = 0 ∧ Lxs s (xs.map TM.d) 0 0) ∨ (x ≠ 0 ∧ xs = [] ∧ ∃ ts, Lxs s ts x p)
theorem tokRes_unique {s : ByteArray} {xs ys : List TM} {x y : Int} {p q : Nat} (h : TokRes s xs x p) (h' : TokRes s ys y q) : xs.map TM.d = ys.map TM.d ∧ x = y ∧ p = q := by
  rcases h with ⟨rfl, rfl, h⟩ | ⟨h0, rfl, ts, h⟩ <;> rcases h' with ⟨rfl, rfl, h'⟩ | ⟨h0', rfl, ts', h'⟩
  · exact lxs_unique h h'
  · exact absurd (lxs_unique h h').2.1.symm h0'
  · exact absurd (lxs_unique h h').2.1 h0
  · exact ⟨rfl, (lxs_unique h h').2⟩
theorem lx_len {s : ByteArray} {a : Nat} {ts : List TD} {e : Int} {p : Nat} (h : Lx s a ts e p) : ts.length ≤ s.size - a := by
  induction h with
  | done h => exact Nat.zero_le _
  | bad h hk hn => exact Nat.zero_le _
  | word h hk hw hr ih =>
    have h1 := wd_size hw hk
    have h2 := hw.2.1
    have h3 := h.1
    rw [List.length_cons]
    omega
theorem tokRes_len {s : ByteArray} {xs : List TM} {x : Int} {p : Nat} (h : TokRes s xs x p) : xs.length ≤ s.size := by
  rcases h with ⟨_, _, h⟩ | ⟨_, rfl, _⟩
  · unfold Lxs at h
    split at h
    · exact absurd h.2.1 (by decide)
    · have := lx_len h
      rw [List.length_map] at this
      omega
  · exact Nat.zero_le _
theorem tokens_u (s : ByteArray) (w : World) (hs : s.size ≤ 1099511627776) (hS : Sgn w) :
    Calls Tryd.prog 17 #[.string s] w fun e w' => ∃ (xs : List TM) (va : Option Addr) (vn vc : Nat) (x : Int) (p : Nat), TokRes s xs x p ∧ e = .returned (.tuple #[.slice va vn vc, .agg #[.int .i64 x, .int .i64 p]]) ∧ w'.ownsRow w.heap.size 52 5 (.slice va vn vc) xs.length (xs.flatMap V5) ∧ (∀ x ∈ xs, Mg w w' x) ∧ SpZ w' tokZ (.slice va vn vc) ∧ Below w.heap.size w w' := by
  refine (tokens_any s w hs hS).mono ?_
  rintro e w1 (⟨xs, v, hx, rfl, hrow, hmg, hz, hb⟩ | ⟨ts, x, p, hx, hx0, rfl, hb⟩)
  · obtain ⟨a, m, c, rfl⟩ := own_slice hrow
    exact ⟨xs, a, m, c, 0, 0, .inl ⟨rfl, rfl, hx⟩, rfl, hrow, hmg, hz, hb⟩
  · exact ⟨[], none, 0, 0, x, p, .inr ⟨hx0, rfl, ts, hx⟩, rfl, World.ownsRow_nil _ _ _ _, fun x hx => (by cases hx), spz_nil _ _, hb⟩
theorem reftokens_u (s : ByteArray) (w : World) (hs : s.size ≤ 1099511627) :
    Calls Tryd.prog 16 #[.string s] w fun e w' => ∃ (xs : List TM) (va : Option Addr) (vn vc : Nat) (x : Int) (p : Nat), TokRes s xs x p ∧ e = .returned (.tuple #[.slice va vn vc, .agg #[.int .i64 x, .int .i64 p]]) ∧ w'.ownsRow w.heap.size 54 5 (.slice va vn vc) xs.length (xs.flatMap V5) ∧ (∀ x ∈ xs, Mg w w' x) ∧ Below w.heap.size w w' := by
  refine (reftokens_any s w hs).mono ?_
  rintro e w1 (⟨xs, v, hx, rfl, hrow, hmg, hb⟩ | ⟨ts, x, p, hx, hx0, rfl, hb⟩)
  · obtain ⟨a, m, c, rfl⟩ := own_slice hrow
    exact ⟨xs, a, m, c, 0, 0, .inl ⟨rfl, rfl, hx⟩, rfl, hrow, hmg, hb⟩
  · exact ⟨[], none, 0, 0, x, p, .inr ⟨hx0, rfl, ts, hx⟩, rfl, World.ownsRow_nil _ _ _ _, fun x hx => (by cases hx), hb⟩
end Go.Proofs.YtnikdfmdcoidmaaDoor
