/-
  Layer 3: the walk of the reference's words.
-/
import Derived.Test.YtnikdfmdcoidmaaDoorXG
namespace Go.Proofs.YtnikdfmdcoidmaaDoor
open Go.RowKit Go.Shelf

theorem slice_kn {s : ByteArray} {k n : Nat} (h : k + n ≤ s.size) (u : World) : (Instr.slice 9 (.string s) (some (.int .i64 (k : Int))) (some (.int .i64 ((k : Int) + (n : Int)))) none).run Tryd.prog u = .ok (.string (s.extract k (k + n))) u := by
  have := run_slice_string (P := Tryd.prog) u 9 s .i64 .i64 (k : Int) ((k : Int) + (n : Int)) Tryd.underlying9 (by omega) (by omega) (by omega)
  rw [this]
  congr 3
theorem cls_zero {b : Int} : cls b = 0 ↔ b = 32 ∨ b = 9 ∨ b = 10 ∨ b = 13 := by
  unfold cls
  constructor
  · intro h
    split at h
    · assumption
    · split at h
      · cases h
      · split at h
        · cases h
        · split at h <;> cases h
  · intro h; rw [if_pos h]

set_option maxRecDepth 100000 in
set_option maxHeartbeats 6400000 in
theorem refparts_any (s : ByteArray) (w : World) (hs : s.size ≤ 1099511627) :
    Calls Tryd.prog 22 #[.string s] w fun e w' => ∃ (xs : List TM) (v : Value) (x : Int) (p : Nat), Lxs s (xs.map TM.d) x p ∧ e = .returned (.tuple #[v, misV x p]) ∧ w'.ownsRow w.heap.size 54 5 v xs.length (xs.flatMap V5) ∧ (∀ x ∈ xs, Mg w w' x) ∧ Below w.heap.size w w' := by
  have hF : PtF w (.slice none 0 0) [] (w.alloc (.cells #[.int .i64 0, .int .i64 0] 35)) := ⟨below_alloc _ _, heap_alloc_new w _, World.ownsRow_nil _ _ _ _, fun x hx => by cases hx⟩
  by_cases hlong : 4096 < s.size
  · have HL : Hid (Lxs s [] 40 0) := by
      show Lxs _ _ _ _
      unfold Lxs
      rw [if_pos hlong]
      exact ⟨rfl, rfl, rfl⟩
    clear hF
    go_enter Tryd.func22, Tryd.ntmps22
    go_wp2
    refine bodyPost_ret (results_tc rfl _ _ w.heap.size 35 _ (0, 0) _ rfl (heap_alloc_new w _) Tryd.underlying35 rfl (by kernel_rfl)) rfl ?_
    exact ⟨[], .slice none 0 0, 40, 0, HL.out, rfl, World.ownsRow_nil _ _ _ _, fun x hx => (by cases hx), below_alloc _ _⟩
  · have HL : Hid (∀ ts x p, Lx s 0 ts x p → Lxs s ts x p) := by
      show ∀ _, _
      intro ts x p h
      unfold Lxs
      rw [if_neg hlong]
      exact h
    go_enter Tryd.func22, Tryd.ntmps22
    go_wp2_with fail
    generalize w.alloc (.cells #[.int .i64 0, .int .i64 0] 35) = wb at *
    go_loopw [4, 5] (fun o i wr => ∃ (k : Nat) (pre : List TM), k ≤ s.size ∧ pre.length ≤ k ∧ i = .int .i64 k ∧ Hid (∀ ts x p, Lx s k ts x p → Lx s 0 (pre.map TM.d ++ ts) x p) ∧ PtF w o pre wr) (fun _ i _ => s.size - (intOf i).toNat)
    case atStart => exact ⟨0, [], Nat.zero_le _, Nat.zero_le _, rfl, fun ts x p h => h, hF⟩
    case round =>
      obtain ⟨k, pre, hk, hpl, rfl, HX, h⟩ := hrel
      obtain ⟨oa, on, oc, rfl⟩ := own_slice h.row
      clear hF
      by_cases hkl : k < s.size
      · have hb := bt_lt s k
        have he := bt_eq s k hkl
        by_cases hbl : cls (bt s k) = 0
        · have HX2 : Hid (∀ ts x p, Lx s (k + 1) ts x p → Lx s 0 (pre.map TM.d ++ ts) x p) := fun ts x p hl => HX.out ts x p (lx_blank hbl hl)
          have hcs := cls_zero.1 hbl
          rw [he] at hcs
          clear hbl he hb
          rcases hcs with hc | hc | hc | hc
          all_goals (
            go_wp2_with fail
            exact ⟨⟨k + 1, pre, by omega, by omega, by go_num, HX2, h⟩, by simp [intOf]; omega⟩)
        · have hnb : ¬ (((s[k]'hkl).toNat : Int) = 32 ∨ ((s[k]'hkl).toNat : Int) = 9 ∨ ((s[k]'hkl).toNat : Int) = 10 ∨ ((s[k]'hkl).toNat : Int) = 13) := by
            rw [← he]
            exact fun hq => hbl (cls_zero.2 hq)
          have e1 : (((s[k]'hkl).toNat : Int) == 32) = false := by rw [beq_eq_false_iff_ne]; omega
          have e2 : (((s[k]'hkl).toNat : Int) == 9) = false := by rw [beq_eq_false_iff_ne]; omega
          have e3 : (((s[k]'hkl).toNat : Int) == 10) = false := by rw [beq_eq_false_iff_ne]; omega
          have e4 : (((s[k]'hkl).toNat : Int) == 13) = false := by rw [beq_eq_false_iff_ne]; omega
          have HB : Hid (BlankEnd s k k) := ⟨Nat.le_refl _, hk, fun j h1 h2 => absurd h1 (by omega), fun _ => hbl⟩
          clear hnb hbl he hb
          go_wp2_with fail
          go_loop [7] (fun i => ∃ n : Nat, k + n ≤ s.size ∧ i = .int .i64 n ∧ Hid (∀ j, j < n → inRow (bt s (k + j)) = true)) (fun i => s.size - (intOf i).toNat)
          case atStart => exact ⟨0, by omega, rfl, fun j hj => absurd hj (by omega)⟩
          case round =>
            obtain ⟨n, hn, rfl, HJ⟩ := hrel
            have key : Hid (RowAt s k n) ∨ (k + n < s.size ∧ inRow (bt s (k + n)) = true) := by
              by_cases hlt : k + n < s.size
              · cases hq : inRow (bt s (k + n))
                · exact .inl ⟨hn, HJ.out, fun _ => hq⟩
                · exact .inr ⟨hlt, rfl⟩
              · exact .inl ⟨hn, HJ.out, fun hq => absurd hq hlt⟩
            rcases key with HR | ⟨hlt, hin⟩
            · by_cases hlt : k + n < s.size
              · have hq := HR.out.2.2 hlt
                have hb := bt_lt s (k + n)
                have he := bt_eq s (k + n) hlt
                clear HJ
                go_wp2_with fail
                refine (rowed_n ((s[k + n]'hlt).toNat : Int) (by omega) (by omega) wr).mono ?_
                rintro e w' ⟨rfl, rfl⟩
                rw [← he, hq]
                clear he hq hb
                by_cases hn0 : n = 0
                · subst hn0
                  have hcl : Hid (cls (bt s k) ≠ 1 ∧ cls (bt s k) ≠ 2) := by
                    have hq := HR.out.2.2 (by omega)
                    rw [Nat.add_zero] at hq
                    unfold inRow at hq
                    rw [decide_eq_false_iff_not] at hq
                    exact ⟨fun e => hq (.inl e), fun e => hq (.inr (.inl e))⟩
                  clear HR
                  have hzs : (s.extract k s.size).size = s.size - k := size_suffix
                  go_wp2_with fail
                  refine (refsign_n (s.extract k s.size) wr (by omega) (by omega)).mono ?_
                  rintro e w' ⟨rfl, rfl⟩
                  have hsl := sgOf_le (s.extract k s.size)
                  generalize hm : (sgOf (s.extract k s.size)).size = m at *
                  by_cases hm0 : m = 0
                  · subst hm0
                    have HX2 : Hid (Lxs s (pre.map TM.d) 30 k) := by
                      have := HX.out [] 30 k (.bad HB.out hkl (.inr (.inr ⟨hcl.out.1, hcl.out.2, hm, rfl⟩)))
                      rw [List.append_nil] at this
                      exact HL.out _ _ _ this
                    clear hm HX HL HB hcl
                    have c0 := cell_of_row wr _ 0 _ _ (0, 0) h.mis
                    have c1 := cell_of_row wr _ 1 _ _ (0, 0) h.mis
                    have f0 := frozen_of_row wr _ 0 _ _ h.mis
                    have f1 := frozen_of_row wr _ 1 _ _ h.mis
                    have ho := h.over (.int .i64 30) (.int .i64 k)
                    have hm := mis_set h.mis (.int .i64 30) (.int .i64 k)
                    go_wp2_with fail
                    refine bodyPost_ret (results_tc rfl _ _ w.heap.size 35 _ (0, 0) _ rfl hm Tryd.underlying35 rfl (by kernel_rfl)) rfl ?_
                    exact ⟨_, _, 30, k, HX2.out, rfl, ho.1, ho.2.1, ho.2.2⟩
                  · have hmb : ((m : Int) == 0) = false := by rw [beq_eq_false_iff_ne]; omega
                    have hge := sgOf_eq (s := s.extract k s.size) (by omega)
                    rw [hm, extract_suffix (by omega)] at hge
                    have hzt : (s.extract k (k + m)).size = m := size_mid (by omega)
                    have HW : Hid (Wd s k ⟨4, s.extract k (k + m), 0, k⟩) := ⟨rfl, by show k + (s.extract k (k + m)).size ≤ s.size; omega, by show s.extract k (k + m) = s.extract k (k + (s.extract k (k + m)).size); rw [hzt], .inr (.inr ⟨hcl.out.1, hcl.out.2, hge.symm, by show 0 < (s.extract k (k + m)).size; omega, rfl, rfl⟩)⟩
                    clear hge hm hcl
                    have hM : Mg w wr ⟨⟨4, s.extract k (k + m), 0, k⟩, none, 0, 0, []⟩ := ⟨out_non h.below, canon_nil, rfl⟩
                    obtain ⟨i0, hi, hz0, hz1, hz2⟩ := info_parts infoRTok
                    have hsl := slice_kn (s := s) (k := k) (n := m) (by omega)
                    go_wp2_with (at_builtin; refine wpList_append_own_at _ rfl _ _ 32 rfl w.heap.size 54 i0 _ 5 64 Tryd.underlying32 hi hz0 hz1 hz2 rfl (by decide) _ _ _ rfl (h.row.alloc _) ⟨wr.heap.size, 0, none⟩ 1 1 (V5 ⟨⟨4, s.extract k (k + m), 0, k⟩, none, 0, 0, []⟩) rfl rfl (v5_newt _ _ _) (v5_one _) (by unfold maxLen; omega) (by omega) (by have := h.below.size; simp; omega) ?_; intro v' w2 hown' hgrow _ _)
                    have hT := h.append hM hown' hgrow
                    have HX2 : Hid (∀ ts x p, Lx s (k + m) ts x p → Lx s 0 ((pre ++ [(⟨⟨4, s.extract k (k + m), 0, k⟩, none, 0, 0, []⟩ : TM)]).map TM.d ++ ts) x p) := by
                      show ∀ _, _
                      intro ts x p hl
                      rw [List.map_append, List.append_assoc]
                      exact HX.out _ _ _ (.word HB.out hkl HW.out (by show Lx s (k + (s.extract k (k + m)).size) ts x p; rw [hzt]; exact hl))
                    exact ⟨⟨k + m, _, by omega, by rw [List.length_append]; simp; omega, by go_num, HX2, hT⟩, by simp [intOf]; omega⟩
                · have hzt : (s.extract k (k + n)).size = n := size_mid (by omega)
                  have hsl := slice_kn (s := s) (k := k) (n := n) (by omega)
                  go_wp2_with fail
                  refine (refrow_any (s.extract k (k + n)) wr (by omega) (by omega)).mono ?_
                  rintro e w1 (⟨kk, num, ad, len, cap, zs, rfl, hK, ho, hcn, hv⟩ | ⟨x, rfl, hE, hb1⟩)
                  · have HW := hide (row_wd HR.out (by omega) hK)
                    have h1 := (h.later ho.1).later (below_alloc w1 (.cells #[.int .i64 kk, .string (s.extract k (k + n)), .bool false, .slice ad len cap, .int .i64 k] 54))
                    have hM : Mg w (w1.alloc (.cells #[.int .i64 kk, .string (s.extract k (k + n)), .bool false, .slice ad len cap, .int .i64 k] 54)) ⟨⟨kk, s.extract k (k + n), num, k⟩, ad, len, cap, zs⟩ := ⟨(ho.outer h.below).later (below_alloc _ _), hcn, hv⟩
                    clear hK ho hcn hv HR
                    obtain ⟨i0, hi, hz0, hz1, hz2⟩ := info_parts infoRTok
                    go_wp2_with (at_builtin; refine wpList_append_own_at _ rfl _ _ 32 rfl w.heap.size 54 i0 _ 5 64 Tryd.underlying32 hi hz0 hz1 hz2 rfl (by decide) _ _ _ rfl (h1.row.alloc _) ⟨(w1.alloc (.cells #[.int .i64 kk, .string (s.extract k (k + n)), .bool false, .slice ad len cap, .int .i64 k] 54)).heap.size, 0, none⟩ 1 1 (V5 ⟨⟨kk, s.extract k (k + n), num, k⟩, ad, len, cap, zs⟩) (by simp; rfl) rfl (v5_newt _ _ _) (v5_one _) (by unfold maxLen; omega) (by omega) (by have := h1.below.size; simp at this ⊢; omega) ?_; intro v' w2 hown' hgrow _ _)
                    have hT := h1.append hM hown' hgrow
                    have HX2 : Hid (∀ ts x p, Lx s (k + n) ts x p → Lx s 0 ((pre ++ [(⟨⟨kk, s.extract k (k + n), num, k⟩, ad, len, cap, zs⟩ : TM)]).map TM.d ++ ts) x p) := by
                      show ∀ _, _
                      intro ts x p hl
                      rw [List.map_append, List.append_assoc]
                      exact HX.out _ _ _ (.word HB.out hkl HW.out (by show Lx s (k + (s.extract k (k + n)).size) ts x p; rw [hzt]; exact hl))
                    exact ⟨⟨k + n, _, by omega, by rw [List.length_append]; simp; omega, by go_num, HX2, hT⟩, by simp [intOf]; omega⟩
                  · have hnw := row_nw HR.out (by omega) hkl hE
                    have hx := nw_ne hnw
                    have hxb : (x == 0) = false := by rw [beq_eq_false_iff_ne]; omega
                    have HX2 : Hid (Lxs s (pre.map TM.d) x k) := by
                      have := HX.out [] x k (.bad HB.out hkl hnw)
                      rw [List.append_nil] at this
                      exact HL.out _ _ _ this
                    have h1 := (h.later hb1).later (below_alloc w1 (.cells #[.int .i64 0, .string ⟨#[]⟩, .bool false, .slice none 0 0, .int .i64 0] 54))
                    clear hnw HX HL HB HR hE
                    have c0 := cell_of_row (w1.alloc (.cells #[.int .i64 0, .string ⟨#[]⟩, .bool false, .slice none 0 0, .int .i64 0] 54)) _ 0 _ _ (0, 0) h1.mis
                    have c1 := cell_of_row (w1.alloc (.cells #[.int .i64 0, .string ⟨#[]⟩, .bool false, .slice none 0 0, .int .i64 0] 54)) _ 1 _ _ (0, 0) h1.mis
                    have f0 := frozen_of_row (w1.alloc (.cells #[.int .i64 0, .string ⟨#[]⟩, .bool false, .slice none 0 0, .int .i64 0] 54)) _ 0 _ _ h1.mis
                    have f1 := frozen_of_row (w1.alloc (.cells #[.int .i64 0, .string ⟨#[]⟩, .bool false, .slice none 0 0, .int .i64 0] 54)) _ 1 _ _ h1.mis
                    have ho := h1.over (.int .i64 x) (.int .i64 k)
                    have hm := mis_set h1.mis (.int .i64 x) (.int .i64 k)
                    go_wp2_with fail
                    refine bodyPost_ret (results_tc rfl _ _ w.heap.size 35 _ (0, 0) _ rfl hm Tryd.underlying35 rfl (by kernel_rfl)) rfl ?_
                    exact ⟨_, _, x, k, HX2.out, rfl, ho.1, ho.2.1, ho.2.2⟩
              · clear HJ
                have hn0 : ¬ n = 0 := by omega
                have hzt : (s.extract k (k + n)).size = n := size_mid (by omega)
                have hsl := slice_kn (s := s) (k := k) (n := n) (by omega)
                go_wp2_with fail
                refine (refrow_any (s.extract k (k + n)) wr (by omega) (by omega)).mono ?_
                rintro e w1 (⟨kk, num, ad, len, cap, zs, rfl, hK, ho, hcn, hv⟩ | ⟨x, rfl, hE, hb1⟩)
                · have HW := hide (row_wd HR.out (by omega) hK)
                  have h1 := (h.later ho.1).later (below_alloc w1 (.cells #[.int .i64 kk, .string (s.extract k (k + n)), .bool false, .slice ad len cap, .int .i64 k] 54))
                  have hM : Mg w (w1.alloc (.cells #[.int .i64 kk, .string (s.extract k (k + n)), .bool false, .slice ad len cap, .int .i64 k] 54)) ⟨⟨kk, s.extract k (k + n), num, k⟩, ad, len, cap, zs⟩ := ⟨(ho.outer h.below).later (below_alloc _ _), hcn, hv⟩
                  clear hK ho hcn hv HR
                  obtain ⟨i0, hi, hz0, hz1, hz2⟩ := info_parts infoRTok
                  go_wp2_with (at_builtin; refine wpList_append_own_at _ rfl _ _ 32 rfl w.heap.size 54 i0 _ 5 64 Tryd.underlying32 hi hz0 hz1 hz2 rfl (by decide) _ _ _ rfl (h1.row.alloc _) ⟨(w1.alloc (.cells #[.int .i64 kk, .string (s.extract k (k + n)), .bool false, .slice ad len cap, .int .i64 k] 54)).heap.size, 0, none⟩ 1 1 (V5 ⟨⟨kk, s.extract k (k + n), num, k⟩, ad, len, cap, zs⟩) (by simp; rfl) rfl (v5_newt _ _ _) (v5_one _) (by unfold maxLen; omega) (by omega) (by have := h1.below.size; simp at this ⊢; omega) ?_; intro v' w2 hown' hgrow _ _)
                  have hT := h1.append hM hown' hgrow
                  have HX2 : Hid (∀ ts x p, Lx s (k + n) ts x p → Lx s 0 ((pre ++ [(⟨⟨kk, s.extract k (k + n), num, k⟩, ad, len, cap, zs⟩ : TM)]).map TM.d ++ ts) x p) := by
                    show ∀ _, _
                    intro ts x p hl
                    rw [List.map_append, List.append_assoc]
                    exact HX.out _ _ _ (.word HB.out hkl HW.out (by show Lx s (k + (s.extract k (k + n)).size) ts x p; rw [hzt]; exact hl))
                  exact ⟨⟨k + n, _, by omega, by rw [List.length_append]; simp; omega, by go_num, HX2, hT⟩, by simp [intOf]; omega⟩
                · have hnw := row_nw HR.out (by omega) hkl hE
                  have hx := nw_ne hnw
                  have hxb : (x == 0) = false := by rw [beq_eq_false_iff_ne]; omega
                  have HX2 : Hid (Lxs s (pre.map TM.d) x k) := by
                    have := HX.out [] x k (.bad HB.out hkl hnw)
                    rw [List.append_nil] at this
                    exact HL.out _ _ _ this
                  have h1 := (h.later hb1).later (below_alloc w1 (.cells #[.int .i64 0, .string ⟨#[]⟩, .bool false, .slice none 0 0, .int .i64 0] 54))
                  clear hnw HX HL HB HR hE
                  have c0 := cell_of_row (w1.alloc (.cells #[.int .i64 0, .string ⟨#[]⟩, .bool false, .slice none 0 0, .int .i64 0] 54)) _ 0 _ _ (0, 0) h1.mis
                  have c1 := cell_of_row (w1.alloc (.cells #[.int .i64 0, .string ⟨#[]⟩, .bool false, .slice none 0 0, .int .i64 0] 54)) _ 1 _ _ (0, 0) h1.mis
                  have f0 := frozen_of_row (w1.alloc (.cells #[.int .i64 0, .string ⟨#[]⟩, .bool false, .slice none 0 0, .int .i64 0] 54)) _ 0 _ _ h1.mis
                  have f1 := frozen_of_row (w1.alloc (.cells #[.int .i64 0, .string ⟨#[]⟩, .bool false, .slice none 0 0, .int .i64 0] 54)) _ 1 _ _ h1.mis
                  have ho := h1.over (.int .i64 x) (.int .i64 k)
                  have hm := mis_set h1.mis (.int .i64 x) (.int .i64 k)
                  go_wp2_with fail
                  refine bodyPost_ret (results_tc rfl _ _ w.heap.size 35 _ (0, 0) _ rfl hm Tryd.underlying35 rfl (by kernel_rfl)) rfl ?_
                  exact ⟨_, _, x, k, HX2.out, rfl, ho.1, ho.2.1, ho.2.2⟩
            · have hb := bt_lt s (k + n)
              have he := bt_eq s (k + n) hlt
              have HE : Hid (∀ j, j < n + 1 → inRow (bt s (k + j)) = true) := by
                show ∀ _, _
                intro j hj
                by_cases e : j = n
                · rw [e]; exact hin
                · exact HJ.out j (by omega)
              clear HJ
              go_wp2_with fail
              refine (rowed_n ((s[k + n]'hlt).toNat : Int) (by omega) (by omega) wr).mono ?_
              rintro e w' ⟨rfl, rfl⟩
              rw [← he, hin]
              clear he hin hb
              go_wp2_with fail
              exact ⟨⟨n + 1, by omega, by go_num, HE⟩, by simp [intOf]; omega⟩
      · obtain rfl : k = s.size := by omega
        have HX2 : Hid (Lxs s (pre.map TM.d) 0 0) := by
          have := HX.out [] 0 0 (.done ⟨Nat.le_refl _, Nat.le_refl _, fun j h1 h2 => absurd h1 (by omega), fun h => absurd h (by omega)⟩)
          rw [List.append_nil] at this
          exact HL.out _ _ _ this
        clear HX HL
        have c0 := cell_of_row wr _ 0 _ _ (0, 0) h.mis
        have c1 := cell_of_row wr _ 1 _ _ (0, 0) h.mis
        have f0 := frozen_of_row wr _ 0 _ _ h.mis
        have f1 := frozen_of_row wr _ 1 _ _ h.mis
        have ho := h.over (.int .i64 0) (.int .i64 0)
        have hm := mis_set h.mis (.int .i64 0) (.int .i64 0)
        go_wp2_with fail
        refine bodyPost_ret (results_tc rfl _ _ w.heap.size 35 _ (0, 0) _ rfl hm Tryd.underlying35 rfl (by kernel_rfl)) rfl ?_
        exact ⟨_, _, 0, 0, HX2.out, rfl, ho.1, ho.2.1, ho.2.2⟩
end Go.Proofs.YtnikdfmdcoidmaaDoor
