/-
  Layer 3: the reference's rows.
-/
import Derived.Test.YtnikdfmdcoidmaaDoorXE
namespace Go.Proofs.YtnikdfmdcoidmaaDoor
open Go.RowKit Go.Shelf

/-- a block of five cells -/
def T5 (ty : TypeId) (w : World) (b : Nat) (v0 v1 v2 v3 v4 : Value) : Prop := w.heap[b]? = some (.cells #[v0, v1, v2, v3, v4] ty (0, 0))
section
variable {ty : TypeId} {w w' : World} {b : Nat} {v0 v1 v2 v3 v4 : Value}
theorem T5.c0 (h : T5 ty w b v0 v1 v2 v3 v4) : w.cell? ⟨b, 0, none⟩ = some v0 := cell_of_row w b 0 _ _ (0, 0) h
theorem T5.c1 (h : T5 ty w b v0 v1 v2 v3 v4) : w.cell? ⟨b, 1, none⟩ = some v1 := cell_of_row w b 1 _ _ (0, 0) h
theorem T5.c2 (h : T5 ty w b v0 v1 v2 v3 v4) : w.cell? ⟨b, 2, none⟩ = some v2 := cell_of_row w b 2 _ _ (0, 0) h
theorem T5.c3 (h : T5 ty w b v0 v1 v2 v3 v4) : w.cell? ⟨b, 3, none⟩ = some v3 := cell_of_row w b 3 _ _ (0, 0) h
theorem T5.c4 (h : T5 ty w b v0 v1 v2 v3 v4) : w.cell? ⟨b, 4, none⟩ = some v4 := cell_of_row w b 4 _ _ (0, 0) h
theorem T5.f (h : T5 ty w b v0 v1 v2 v3 v4) (i : Nat) : w.frozen? ⟨b, i, none⟩ = false := frozen_of_row w b i _ _ h
theorem T5.lt (h : T5 ty w b v0 v1 v2 v3 v4) : b < w.heap.size := (Array.getElem?_eq_some_iff.1 h).1
theorem T5.below (h : T5 ty w b v0 v1 v2 v3 v4) (hb : Below w.heap.size w w') : T5 ty w' b v0 v1 v2 v3 v4 := (hb.block b h.lt).trans h
theorem t5_new (ty : TypeId) (w : World) (v0 v1 v2 v3 v4 : Value) : T5 ty (w.alloc (.cells #[v0, v1, v2, v3, v4] ty)) w.heap.size v0 v1 v2 v3 v4 := heap_alloc_new w _
theorem T5.fin (h : T5 ty w b v0 v1 v2 v3 v4) (u0 u1 u2 u3 u4 : Value) : T5 ty (tokSet w b u0 u1 u2 u3 u4) b u0 u1 u2 u3 u4 := by
  have y0 := heap_setCell_same w b 0 _ ty u0 h
  have y1 := heap_setCell_same _ b 1 _ ty u1 y0
  have y2 := heap_setCell_same _ b 2 _ ty u2 y1
  have y3 := heap_setCell_same _ b 3 _ ty u3 y2
  have y4 := heap_setCell_same _ b 4 _ ty u4 y3
  unfold T5 tokSet
  simpa using y4
end

theorem ten_letter {s : ByteArray} (h : tenB s = true) : cls (bt s 0) = 2 := by
  unfold tenB at h
  simp only [Bool.or_eq_true, beq_iff_eq] at h
  rcases h with ((((((((h | h) | h) | h) | h) | h) | h) | h) | h) | h <;> (rw [bt_of_toList h]; decide)

def RowK (s : ByteArray) (k num : Int) : Prop := (cls (bt s 0) = 1 ∧ okText s ∧ k = 1 ∧ num = (dr s 0 s.size : Int)) ∨ (cls (bt s 0) ≠ 1 ∧ ((tenB s = true ∧ k = 3) ∨ (tenB s = false ∧ nmB s = true ∧ k = 2)) ∧ num = 0)
def RowE (s : ByteArray) (x : Int) : Prop := (cls (bt s 0) = 1 ∧ ¬ okText s ∧ x = 12) ∨ (cls (bt s 0) ≠ 1 ∧ tenB s = false ∧ nmB s = false ∧ x = 30)
theorem bt_mid {s : ByteArray} {a n i : Nat} (h : a + n ≤ s.size) (hi : i < n) : bt (s.extract a (a + n)) i = bt s (a + i) := bt_extract s a (a + n) i h (by omega)
theorem cls_in {s : ByteArray} {a n : Nat} (hr : RowAt s a n) (h0 : 0 < n) : cls (bt s a) = 1 ∨ cls (bt s a) = 2 ∨ cls (bt s a) = 3 := by
  have := hr.2.1 0 h0
  rw [Nat.add_zero] at this
  unfold inRow at this
  rwa [decide_eq_true_iff] at this
theorem row_wd {s : ByteArray} {a n : Nat} {k num : Int} (hr : RowAt s a n) (h0 : 0 < n) (h : RowK (s.extract a (a + n)) k num) : Wd s a ⟨k, s.extract a (a + n), num, a⟩ := by
  have hz := size_mid hr.1
  have hb : bt (s.extract a (a + n)) 0 = bt s a := bt_mid hr.1 h0
  have hcl := cls_in hr h0
  refine ⟨rfl, by show a + (s.extract a (a + n)).size ≤ s.size; rw [hz]; exact hr.1, by show s.extract a (a + n) = s.extract a (a + (s.extract a (a + n)).size); rw [hz], ?_⟩
  rcases h with ⟨hc, hok, hk, hn⟩ | ⟨hc, hk, hn⟩
  · rw [hb] at hc
    exact .inl ⟨hc, by show RowAt s a (s.extract a (a + n)).size; rw [hz]; exact hr, hok, hk, hn⟩
  · rw [hb] at hc
    have h2 : cls (bt s a) = 2 := by
      rcases hk with ⟨ht, _⟩ | ⟨_, hn, _⟩
      · rw [← hb]; exact ten_letter ht
      · rw [← hb]; exact (nmB_iff.1 hn).2.1
    have hkd : k = kd (s.extract a (a + n)) := by
      rcases hk with ⟨ht, hk⟩ | ⟨_, hn, hk⟩
      · rw [hk]; unfold kd; rw [if_pos ht]
      · rw [hk, (nmB_iff.1 hn).2.2.2]
    refine .inr (.inl ⟨h2, by show RowAt s a (s.extract a (a + n)).size; rw [hz]; exact hr, hkd, ?_, hn⟩)
    show k ≠ 0
    rcases hk with ⟨_, hk⟩ | ⟨_, _, hk⟩ <;> omega
theorem row_nw {s : ByteArray} {a n : Nat} {x : Int} (hr : RowAt s a n) (h0 : 0 < n) (ha : a < s.size) (h : RowE (s.extract a (a + n)) x) : Nw s a x := by
  have hz := size_mid hr.1
  have hb : bt (s.extract a (a + n)) 0 = bt s a := bt_mid hr.1 h0
  have hcl := cls_in hr h0
  rcases h with ⟨hc, hok, hx⟩ | ⟨hc, ht, hn, hx⟩
  · rw [hb] at hc
    exact .inl ⟨hc, ⟨n, hr, hok⟩, hx⟩
  · rw [hb] at hc
    by_cases h2 : cls (bt s a) = 2
    · refine .inr (.inl ⟨h2, ⟨n, hr, ?_⟩, hx⟩)
      unfold kd
      rw [if_neg (by rw [ht]; decide)]
      by_cases h24 : 24 < (s.extract a (a + n)).size
      · rw [if_pos h24]
      · exfalso
        rw [Bool.eq_false_iff] at hn
        refine hn (nmB_iff.2 ⟨by omega, by rw [hb]; exact h2, ⟨Nat.le_refl _, fun j hj => ?_, fun h => absurd h (by omega)⟩, kd_name ht (by omega)⟩)
        rw [hz] at hj
        rw [bt_mid hr.1 hj]
        exact hr.2.1 j hj
    · refine .inr (.inr ⟨hc, h2, ?_, hx⟩)
      have h3 : cls (bt s a) = 3 := by omega
      have h95 : bt s a = 95 := by
        have h4 := hr.2.1 0 h0
        rw [Nat.add_zero, inRow_eq] at h4
        unfold letB digB at h4
        rw [decide_eq_false h2, decide_eq_false hc, Bool.false_or, Bool.false_or, decide_eq_true_iff] at h4
        omega
      have hs0 : 0 < (s.extract a s.size).size := by rw [size_suffix]; omega
      have hbs : bt (s.extract a s.size) 0 = 95 := by rw [bt_suffix (by omega)]; exact h95
      rw [sgOf_size hs0, hbs]
      have p2 : ∀ c : UInt8, c ≠ 95 → pfx (s.extract a s.size) ⟨#[c, 61]⟩ = false := by
        intro c hc
        rw [Bool.eq_false_iff]
        intro hp
        have := (pfx_iff.1 hp).2 0 (by show 0 < 2; decide)
        rw [hbs] at this
        have e : bt ⟨#[c, 61]⟩ 0 = c.toNat := rfl
        rw [e] at this
        exact hc (UInt8.toNat_inj.1 this.symm)
      rw [p2 60 (by decide), p2 62 (by decide), p2 33 (by decide)]
      rfl

set_option maxRecDepth 100000 in
set_option maxHeartbeats 3200000 in
theorem refrow_any (s : ByteArray) (w : World) (h0 : 0 < s.size) (hs : s.size ≤ 1099511627) :
    Calls Tryd.prog 46 #[.string s] w fun e w' =>
      (∃ k num ad len cap zs, e = .returned (.tuple #[.agg #[.int .i64 k, .string s, .bool false, .slice ad len cap, .int .i64 0], .int .i64 0]) ∧ RowK s k num ∧ Out w w' ad len cap zs ∧ Canon zs ∧ val zs = num) ∨
      (∃ x, e = .returned (.tuple #[.agg #[.int .i64 0, .string ⟨#[]⟩, .bool false, .slice none 0 0, .int .i64 0], .int .i64 x]) ∧ RowE s x ∧ Below w.heap.size w w') := by
  have hb := bt_lt s 0
  have he := bt_eq s 0 h0
  go_enter Tryd.func46, Tryd.ntmps46
  go_wp2_with fail
  have y := t5_new 54 w (.int .i64 0) (.string ⟨#[]⟩) (.bool false) (.slice none 0 0) (.int .i64 0)
  have b0 := below_alloc w (.cells #[.int .i64 0, .string ⟨#[]⟩, .bool false, .slice none 0 0, .int .i64 0] 54)
  generalize w.alloc (.cells #[.int .i64 0, .string ⟨#[]⟩, .bool false, .slice none 0 0, .int .i64 0] 54) = wb at *
  have hlt := y.lt
  generalize hr : w.heap.size = r at y hlt
  have hle : w.heap.size ≤ r := by rw [hr]; exact Nat.le_refl _
  replace hr := hide hr
  refine (digit_n ((s[0]'h0).toNat : Int) (by omega) (by omega) wb).mono ?_
  rintro e w' ⟨rfl, rfl⟩
  rw [← he]
  clear he hb
  by_cases h1 : cls (bt s 0) = 1
  · have H1 := hide h1
    rw [show digB (bt s 0) = true from decide_eq_true h1]
    clear h1
    by_cases hok : okText s
    · go_wp2_with fail
      refine (refparse_yes s wb (by omega) hok).mono ?_
      rintro e w1 ⟨ad, len, cap, zs, rfl, ho, hcn, hv, hl⟩
      have y' := y.below ho.1
      have y0 := y'.c0
      have y1 := y'.c1
      have y2 := y'.c2
      have y3 := y'.c3
      have y4 := y'.c4
      have z0 := y'.f 0
      have z1 := y'.f 1
      have z2 := y'.f 2
      have z3 := y'.f 3
      have z4 := y'.f 4
      go_wp2
      refine bodyPost_ret (results_ct' rfl _ _ r 54 _ (0, 0) _ rfl (y'.fin _ _ _ _ _) Tryd.underlying54 rfl (by kernel_rfl)) rfl ?_
      exact .inl ⟨1, _, ad, len, cap, zs, by simp, .inl ⟨H1.out, hok, rfl, rfl⟩, out_tok b0 hle hlt _ _ _ _ _ ho, hcn, hv⟩
    · go_wp2_with fail
      refine (refparse_no s wb (by omega) hok).mono ?_
      rintro e w1 ⟨rfl, rfl⟩
      have y' := y.below (Below.refl _ _)
      have y0 := y'.c0
      have y1 := y'.c1
      have y2 := y'.c2
      have y3 := y'.c3
      have y4 := y'.c4
      have z0 := y'.f 0
      have z1 := y'.f 1
      have z2 := y'.f 2
      have z3 := y'.f 3
      have z4 := y'.f 4
      go_wp2
      refine bodyPost_ret (results_ct' rfl _ _ r 54 _ (0, 0) _ rfl (y'.fin _ _ _ _ _) Tryd.underlying54 rfl (by kernel_rfl)) rfl ?_
      exact .inr ⟨12, by simp, .inl ⟨H1.out, hok, rfl⟩, below_tok b0 hle (Below.refl _ _) _ _ _ _ _⟩
  · have H1 := hide h1
    rw [show digB (bt s 0) = false from decide_eq_false h1]
    clear h1
    go_wp2_with fail
    refine (refIs_n s wb).mono ?_
    rintro e w' ⟨rfl, rfl⟩
    cases ht : tenB s
    · have HT := hide ht
      clear ht
      go_wp2_with fail
      refine (refIsName_n s wb (by omega)).mono ?_
      rintro e w' ⟨rfl, rfl⟩
      cases hn : nmB s
      · have HN := hide hn
        clear hn
        have y' := y.below (Below.refl _ _)
        have y0 := y'.c0
        have y1 := y'.c1
        have y2 := y'.c2
        have y3 := y'.c3
        have y4 := y'.c4
        have z0 := y'.f 0
        have z1 := y'.f 1
        have z2 := y'.f 2
        have z3 := y'.f 3
        have z4 := y'.f 4
        go_wp2
        refine bodyPost_ret (results_ct' rfl _ _ r 54 _ (0, 0) _ rfl (y'.fin _ _ _ _ _) Tryd.underlying54 rfl (by kernel_rfl)) rfl ?_
        exact .inr ⟨30, by simp, .inr ⟨H1.out, HT.out, HN.out, rfl⟩, below_tok b0 hle (Below.refl _ _) _ _ _ _ _⟩
      · have HN := hide hn
        clear hn
        have y' := y.below (Below.refl _ _)
        have y0 := y'.c0
        have y1 := y'.c1
        have y2 := y'.c2
        have y3 := y'.c3
        have y4 := y'.c4
        have z0 := y'.f 0
        have z1 := y'.f 1
        have z2 := y'.f 2
        have z3 := y'.f 3
        have z4 := y'.f 4
        go_wp2
        refine bodyPost_ret (results_ct' rfl _ _ r 54 _ (0, 0) _ rfl (y'.fin _ _ _ _ _) Tryd.underlying54 rfl (by kernel_rfl)) rfl ?_
        exact .inl ⟨2, 0, none, 0, 0, [], by simp, .inr ⟨H1.out, .inr ⟨HT.out, HN.out, rfl⟩, rfl⟩, out_non (below_tok b0 hle (Below.refl _ _) _ _ _ _ _), canon_nil, rfl⟩
    · have HT := hide ht
      clear ht
      have y' := y.below (Below.refl _ _)
      have y0 := y'.c0
      have y1 := y'.c1
      have y2 := y'.c2
      have y3 := y'.c3
      have y4 := y'.c4
      have z0 := y'.f 0
      have z1 := y'.f 1
      have z2 := y'.f 2
      have z3 := y'.f 3
      have z4 := y'.f 4
      go_wp2
      refine bodyPost_ret (results_ct' rfl _ _ r 54 _ (0, 0) _ rfl (y'.fin _ _ _ _ _) Tryd.underlying54 rfl (by kernel_rfl)) rfl ?_
      exact .inl ⟨3, 0, none, 0, 0, [], by simp, .inr ⟨H1.out, .inl ⟨HT.out, rfl⟩, rfl⟩, out_non (below_tok b0 hle (Below.refl _ _) _ _ _ _ _), canon_nil, rfl⟩
end Go.Proofs.YtnikdfmdcoidmaaDoor
