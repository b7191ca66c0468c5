/-
  Layer 3: the walk of the word that begins at a place.
-/
import Derived.Test.YtkgemeeadkfnhaaDoorX5
namespace Go.Proofs.YtkgemeeadkfnhaaDoor
open Go.RowKit

theorem below_tok {w wb w' : World} {r : Nat} (b0 : Below w.heap.size w wb) (hr : w.heap.size ≤ r) (k : Below wb.heap.size wb w') (u0 u1 u2 u3 u4 : Value) : Below w.heap.size w (tokSet w' r u0 u1 u2 u3 u4) :=
  (grow_step k b0).trans ((tok_only _ _ _ _ _ _ _).below hr)
theorem out_tok {w wb w' : World} {r : Nat} (b0 : Below w.heap.size w wb) (hr : w.heap.size ≤ r) (hrb : r < wb.heap.size) (u0 u1 u2 u3 u4 : Value) {ad : Option Addr} {len cap : Nat} {zs : List Int} (ho : Out wb w' ad len cap zs) : Out w (tokSet w' r u0 u1 u2 u3 u4) ad len cap zs :=
  (ho.outer b0).keep (below_tok b0 hr ho.1 _ _ _ _ _) (fun b hb => (tok_only _ _ _ _ _ _ _).block b (fun e => by have := (ho.lt hb).1; omega))
theorem out_non {w w' : World} (h : Below w.heap.size w w') : Out w w' none 0 0 [] := ⟨h, .inl ⟨rfl, rfl, rfl, rfl⟩⟩

theorem kd_pos {s : ByteArray} (h : kd s ≠ 0) : 0 < kd s := by
  unfold kd at *
  split
  · decide
  · split
    · rename_i h1 h2; rw [if_neg h1, if_pos h2] at h; exact absurd rfl h
    · decide
set_option maxRecDepth 100000 in
set_option maxHeartbeats 1600000 in
theorem wordAt_any (s : ByteArray) (a : Nat) (w : World) (hs : s.size ≤ 1099511627776) (ha : a < s.size) (hS : Sgn w) :
    Calls Tryd.prog 24 #[.string s, .int .i64 a] w fun e w' =>
      (∃ t ad len cap zs, e = .returned (.tuple #[.agg #[.int .i64 t.kind, .string t.text, .bool false, .slice ad len cap, .int .i64 a], .int .i64 0]) ∧ Wd s a t ∧ Out w w' ad len cap zs ∧ Canon zs ∧ val zs = t.num ∧ len ≤ s.size) ∨
      (∃ x, e = .returned (.tuple #[.agg #[.int .i64 0, .string ⟨#[]⟩, .bool false, .slice none 0 0, .int .i64 0], .int .i64 x]) ∧ Nw s a x ∧ Below w.heap.size w w') := by
  have hb := bt_lt s a
  have he := bt_eq s a ha
  have hz : (s.extract a s.size).size = s.size - a := size_suffix
  go_enter Tryd.func24, Tryd.ntmps24
  go_wp2_with fail
  have y := tb_new w (.int .i64 0) (.string ⟨#[]⟩) (.bool false) (.slice none 0 0) (.int .i64 0)
  have b0 := below_alloc w (.cells #[.int .i64 0, .string ⟨#[]⟩, .bool false, .slice none 0 0, .int .i64 0] 40)
  replace hS := hS.below b0
  generalize w.alloc (.cells #[.int .i64 0, .string ⟨#[]⟩, .bool false, .slice none 0 0, .int .i64 0] 40) = wb at *
  have hlt := y.lt
  generalize hr : w.heap.size = r at y hlt
  have hle : w.heap.size ≤ r := by rw [hr]; exact Nat.le_refl _
  replace hr := hide hr
  refine (lookAt_n ((s[a]'ha).toNat : Int) (by omega) (by omega) wb).mono ?_
  rintro e w' ⟨rfl, rfl⟩
  rw [← he]
  have hc := cls_bd (bt s a)
  by_cases h1 : cls (bt s a) = 1
  · have H1 := hide h1
    rw [h1]
    clear h1
    go_wp2_with fail
    refine (rowOf_n (s.extract a s.size) wb (by omega)).mono ?_
    rintro e w' ⟨k, hk, rfl, rfl⟩
    have hra := rowAt_of (by omega) hk
    have hkl := hra.1
    have hkz : (s.extract a (a + k)).size = k := size_mid hkl
    rw [extract_suffix hkl]
    clear hk
    by_cases hok : okText (s.extract a (a + k))
    · go_wp2_with fail
      refine (number_yes (s.extract a (a + k)) a wb hok (by omega)).mono ?_
      rintro e w1 ⟨ad, len, cap, zs, rfl, ho, hcn, hv, hl⟩
      have y' := y.below ho.1
      have y0 := y'.c0
      have y1 := y'.c1
      have y2 := y'.c2
      have y3 := y'.c3
      have y4 := y'.c4
      have z0 := y'.f 0
      have z1 := y'.f 1
      have z2 := y'.f 2
      have z3 := y'.f 3
      have z4 := y'.f 4
      go_wp2
      refine bodyPost_ret (results_ct' rfl _ _ r 40 _ (0, 0) _ rfl (tb_fin y' _ _ _ _ _) Tryd.underlying40 rfl (by kernel_rfl)) rfl ?_
      exact .inl ⟨⟨1, s.extract a (a + k), dr (s.extract a (a + k)) 0 (s.extract a (a + k)).size, a⟩, ad, len, cap, zs, by simp, ⟨rfl, by rw [hkz]; exact hkl, by rw [hkz], .inl ⟨H1.out, by rw [hkz]; exact hra, hok, rfl, rfl⟩⟩, out_tok b0 hle hlt _ _ _ _ _ ho, hcn, hv, by omega⟩
    · go_wp2_with fail
      refine (number_no (s.extract a (a + k)) a wb hok (by omega)).mono ?_
      rintro e w1 ⟨rfl, ho⟩
      have y' := y.below ho
      have y0 := y'.c0
      have y1 := y'.c1
      have y2 := y'.c2
      have y3 := y'.c3
      have y4 := y'.c4
      have z0 := y'.f 0
      have z1 := y'.f 1
      have z2 := y'.f 2
      have z3 := y'.f 3
      have z4 := y'.f 4
      go_wp2
      refine bodyPost_ret (results_ct' rfl _ _ r 40 _ (0, 0) _ rfl (tb_fin y' _ _ _ _ _) Tryd.underlying40 rfl (by kernel_rfl)) rfl ?_
      exact .inr ⟨12, by simp, .inl ⟨H1.out, ⟨k, hra, hok⟩, rfl⟩, below_tok b0 hle ho _ _ _ _ _⟩
  · by_cases h2 : cls (bt s a) = 2
    · have H2 := hide h2
      rw [h2]
      clear h2 h1
      go_wp2_with fail
      refine (rowOf_n (s.extract a s.size) wb (by omega)).mono ?_
      rintro e w' ⟨k, hk, rfl, rfl⟩
      have hra := rowAt_of (by omega) hk
      have hkl := hra.1
      have hkz : (s.extract a (a + k)).size = k := size_mid hkl
      rw [extract_suffix hkl]
      clear hk
      go_wp2_with fail
      refine (kindOf_n (s.extract a (a + k)) wb (by omega)).mono ?_
      rintro e w' ⟨rfl, rfl⟩
      have hk0 := rowAt_pos hra ha (.inr H2.out)
      by_cases hkd : kd (s.extract a (a + k)) = 0
      · have HK := hide hkd
        rw [hkd]
        clear hkd
        go_wp2_with fail
        refine (plain_no 0 (s.extract a (a + k)) a wb (.inl rfl)).mono ?_
        rintro e w1 ⟨rfl, ho⟩
        have y' := y.below ho
        have y0 := y'.c0
        have y1 := y'.c1
        have y2 := y'.c2
        have y3 := y'.c3
        have y4 := y'.c4
        have z0 := y'.f 0
        have z1 := y'.f 1
        have z2 := y'.f 2
        have z3 := y'.f 3
        have z4 := y'.f 4
        go_wp2
        refine bodyPost_ret (results_ct' rfl _ _ r 40 _ (0, 0) _ rfl (tb_fin y' _ _ _ _ _) Tryd.underlying40 rfl (by kernel_rfl)) rfl ?_
        exact .inr ⟨30, by simp, .inr (.inl ⟨H2.out, ⟨k, hra, HK.out⟩, rfl⟩), below_tok b0 hle ho _ _ _ _ _⟩
      · have HK := hide hkd
        have hkp := kd_pos hkd
        clear hkd
        go_wp2_with fail
        refine (plain_yes _ (s.extract a (a + k)) a wb hkp (by omega)).mono ?_
        rintro e w1 ⟨rfl, ho⟩
        have y' := y.below ho
        have y0 := y'.c0
        have y1 := y'.c1
        have y2 := y'.c2
        have y3 := y'.c3
        have y4 := y'.c4
        have z0 := y'.f 0
        have z1 := y'.f 1
        have z2 := y'.f 2
        have z3 := y'.f 3
        have z4 := y'.f 4
        go_wp2
        refine bodyPost_ret (results_ct' rfl _ _ r 40 _ (0, 0) _ rfl (tb_fin y' _ _ _ _ _) Tryd.underlying40 rfl (by kernel_rfl)) rfl ?_
        exact .inl ⟨⟨kd (s.extract a (a + k)), s.extract a (a + k), 0, a⟩, none, 0, 0, [], by simp, ⟨rfl, by rw [hkz]; exact hkl, by rw [hkz], .inr (.inl ⟨H2.out, by rw [hkz]; exact hra, rfl, HK.out, rfl⟩)⟩, out_non (below_tok b0 hle ho _ _ _ _ _), canon_nil, rfl, by omega⟩
    · have H1 := hide h1
      have H2 := hide h2
      have n1 : (cls (bt s a) == 1) = false := by rw [beq_eq_false_iff_ne]; exact h1
      have n2 : (cls (bt s a) == 2) = false := by rw [beq_eq_false_iff_ne]; exact h2
      clear h1 h2
      generalize hcc : cls (bt s a) = c at *
      replace hcc := hide hcc
      go_wp2_with fail
      refine (signOf_n (s.extract a s.size) wb (by omega) hS).mono ?_
      rintro e w' ⟨rfl, rfl⟩
      have hsl := sgOf_le (s.extract a s.size)
      by_cases hg : 0 < (sgOf (s.extract a s.size)).size
      · have hge := sgOf_eq hg
        rw [extract_suffix (by omega)] at hge
        replace hge := hide hge
        go_wp2_with fail
        refine (plain_yes 4 (sgOf (s.extract a s.size)) a wb (by decide) hg).mono ?_
        rintro e w1 ⟨rfl, ho⟩
        have y' := y.below ho
        have y0 := y'.c0
        have y1 := y'.c1
        have y2 := y'.c2
        have y3 := y'.c3
        have y4 := y'.c4
        have z0 := y'.f 0
        have z1 := y'.f 1
        have z2 := y'.f 2
        have z3 := y'.f 3
        have z4 := y'.f 4
        go_wp2
        refine bodyPost_ret (results_ct' rfl _ _ r 40 _ (0, 0) _ rfl (tb_fin y' _ _ _ _ _) Tryd.underlying40 rfl (by kernel_rfl)) rfl ?_
        exact .inl ⟨⟨4, sgOf (s.extract a s.size), 0, a⟩, none, 0, 0, [], by simp, ⟨rfl, by show a + (sgOf (s.extract a s.size)).size ≤ s.size; omega, hge.out, .inr (.inr ⟨by rw [hcc.out]; exact H1.out, by rw [hcc.out]; exact H2.out, rfl, hg, rfl, rfl⟩)⟩, out_non (below_tok b0 hle ho _ _ _ _ _), canon_nil, rfl, by omega⟩
      · go_wp2_with fail
        refine (plain_no 4 (sgOf (s.extract a s.size)) a wb (.inr (by omega))).mono ?_
        rintro e w1 ⟨rfl, ho⟩
        have y' := y.below ho
        have y0 := y'.c0
        have y1 := y'.c1
        have y2 := y'.c2
        have y3 := y'.c3
        have y4 := y'.c4
        have z0 := y'.f 0
        have z1 := y'.f 1
        have z2 := y'.f 2
        have z3 := y'.f 3
        have z4 := y'.f 4
        go_wp2
        refine bodyPost_ret (results_ct' rfl _ _ r 40 _ (0, 0) _ rfl (tb_fin y' _ _ _ _ _) Tryd.underlying40 rfl (by kernel_rfl)) rfl ?_
        exact .inr ⟨30, by simp, .inr (.inr ⟨by rw [hcc.out]; exact H1.out, by rw [hcc.out]; exact H2.out, by omega, rfl⟩), below_tok b0 hle ho _ _ _ _ _⟩
end Go.Proofs.YtkgemeeadkfnhaaDoor
