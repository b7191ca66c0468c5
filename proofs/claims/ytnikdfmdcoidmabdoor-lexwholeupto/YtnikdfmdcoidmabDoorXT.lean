/-
  Layer 3: the words that a range over them tells.
-/
import Derived.Test.YtnikdfmdcoidmabDoorXS
namespace Go.Proofs.YtnikdfmdcoidmabDoor
open Go.RowKit Go.Shelf
attribute [local go_sem] Oper.semAt_some

theorem ovf_new (w : World) (s : ByteArray) (n : Int) (r : Loop) : OvF w n (.slice none 0 0) [] (((((w.alloc (.cells #[.int .i64 n] 3)).alloc (.cells #[.slice none 0 0] 23)).alloc (.cells #[.string s] 9)).alloc (.deferred (some []))).alloc (.loop r)) ∧ (((((w.alloc (.cells #[.int .i64 n] 3)).alloc (.cells #[.slice none 0 0] 23)).alloc (.cells #[.string s] 9)).alloc (.deferred (some []))).alloc (.loop r)).cell? ⟨w.heap.size + 1 + 1, 0, none⟩ = some (.string s) ∧ (((((w.alloc (.cells #[.int .i64 n] 3)).alloc (.cells #[.slice none 0 0] 23)).alloc (.cells #[.string s] 9)).alloc (.deferred (some []))).alloc (.loop r)).heap[w.heap.size + 4]? = some (.loop r) := by
  have b1 := below_alloc w (.cells #[.int .i64 n] 3)
  have n1 := heap_alloc_new w (.cells #[.int .i64 n] 3)
  have s1 : (w.alloc (.cells #[.int .i64 n] 3)).heap.size = w.heap.size + 1 := by simp
  generalize w.alloc (.cells #[.int .i64 n] 3) = w1 at *
  have b2 := below_alloc w1 (.cells #[.slice none 0 0] 23)
  have n2 := heap_alloc_new w1 (.cells #[.slice none 0 0] 23)
  have s2 : (w1.alloc (.cells #[.slice none 0 0] 23)).heap.size = w.heap.size + 1 + 1 := by simp [s1]
  rw [s1] at n2
  generalize w1.alloc (.cells #[.slice none 0 0] 23) = w2 at *
  have b3 := below_alloc w2 (.cells #[.string s] 9)
  have n3 := heap_alloc_new w2 (.cells #[.string s] 9)
  have s3 : (w2.alloc (.cells #[.string s] 9)).heap.size = w.heap.size + 3 := by simp [s2]
  rw [s2] at n3
  generalize w2.alloc (.cells #[.string s] 9) = w3 at *
  have b4 := below_alloc w3 (.deferred (some []))
  have n4 := heap_alloc_new w3 (.deferred (some []))
  have s4 : (w3.alloc (.deferred (some []))).heap.size = w.heap.size + 4 := by simp [s3]
  rw [s3] at n4
  generalize w3.alloc (.deferred (some [])) = w4 at *
  have b5 := below_alloc w4 (.loop r)
  have n5 := heap_alloc_new w4 (.loop r)
  rw [s4] at n5
  generalize w4.alloc (.loop r) = w5 at *
  have b45 := grow_step b5 b4
  have b35 := grow_step b45 b3
  have b25 := grow_step b35 b2
  have b15 := grow_step b25 b1
  exact ⟨⟨b15, block_later n1 b25, block_later n2 b35, block_later n4 b5, World.ownsRow_nil _ _ _ _, fun x hx => (by cases hx)⟩, cell_of_row w5 _ 0 _ _ (0, 0) (block_later n3 b45), n5⟩

set_option maxRecDepth 100000 in
set_option maxHeartbeats 6400000 in
theorem over_any (s : ByteArray) (n : Int) (w : World) (hs : s.size ≤ 1099511627776) (_hn0 : -9223372036854775808 ≤ n) (_hn1 : n ≤ 9223372036854775807) (hn : n ≠ 0) (hS : Sgn w) :
    Calls Tryd.prog 10 #[.string s, .int .i64 n] w fun e w' => ∃ (xs : List TM) (v : Value), e = .returned v ∧ w'.ownsRow w.heap.size 35 5 v xs.length (xs.flatMap V5) ∧ (∀ x ∈ xs, Mg w w' x) ∧ Below w.heap.size w w' ∧
      (((∀ k : Nat, k ≤ xs.length → (k : Int) ≠ n) ∧ ∃ x p, Lxs s (xs.map TM.d) x p) ∨ ((xs.length : Int) = n ∧ ∃ a, ∀ ts x p, Lx s a ts x p → Lxs s (xs.map TM.d ++ ts) x p)) := by
  have hnb : (n == 0) = false := by rw [beq_eq_false_iff_ne]; exact hn
  refine (callsIn_wide (n := 5)).1 ?_
  refine callsIn_of_wp_marks Tryd.func10 rfl trivial ?_ rfl
  simp only [Tryd.ntmps10, List.size_toArray, List.length_cons, List.length_nil, Nat.reduceAdd, Nat.reduceSub, Array.replicate_succ, Array.replicate_zero, List.push_toArray, List.append_toArray, List.nil_append, List.cons_append]
  gi_wp2
  refine ⟨trivial, (callsIn_wide.2 (words_any s _)).mono ?_⟩
  rintro e w' ⟨rfl, rfl⟩
  gi_wp2
  refine range_enter rfl (enters_of Tryd.func21 (by kernel_rfl) rfl) (fun fn r hr => ?_)
  have hF := ovf_new w s n r
  have hsz : (((w.alloc (.cells #[.int .i64 n] 3)).alloc (.cells #[.slice none 0 0] 23)).alloc (.cells #[.string s] 9)).heap.size = w.heap.size + 3 := by simp
  have hszW : (((((w.alloc (.cells #[.int .i64 n] 3)).alloc (.cells #[.slice none 0 0] 23)).alloc (.cells #[.string s] 9)).alloc (.deferred (some []))).alloc (.loop r)).heap.size = w.heap.size + 5 := by simp
  rw [hsz]
  generalize ((((w.alloc (.cells #[.int .i64 n] 3)).alloc (.cells #[.slice none 0 0] 23)).alloc (.cells #[.string s] 9)).alloc (.deferred (some []))).alloc (.loop r) = WW at *
  clear hsz
  obtain ⟨hF0, hT0, hL0⟩ := hF
  refine (words1_any s (w.heap.size + 1 + 1) (w.heap.size + 3 + 1) _ WW (fun xs W => (∃ v, OvF w n v xs W) ∧ Hid (∀ k : Nat, k ≤ xs.length → (k : Int) ≠ n) ∧ W.heap[w.heap.size + 4]? = some (.loop r))
    (fun xs W => (∃ v, OvF w n v xs W) ∧ Hid ((xs.length : Int) = n) ∧ W.heap[w.heap.size + 4]? = some (.loop { r with state := .done, pending := some (.exit 0) })) ?_ ?_ ?_ ?_ ?_ hT0 hs ⟨⟨_, hF0⟩, fun k hk e => hn (by have : k = 0 := Nat.le_zero.1 hk; rw [← e, this]; rfl), hL0⟩).mono ?_
  · rintro xs W ⟨⟨v, h⟩, -⟩
    exact hS.below h.below
  · rintro xs W W' ⟨⟨v, h⟩, hne, hl⟩ hb
    exact ⟨⟨v, h.later hb⟩, hne, block_later hl hb⟩
  · rintro xs W b o o' hb ho hc ⟨⟨v, h⟩, hne, hl⟩
    exact ⟨⟨v, h.put (by omega) ho hc o'⟩, hne, (World.putObj_heap_other (by omega)).trans hl⟩
  · rintro xs W b o o' hb ho hc ⟨⟨v, h⟩, hne, hl⟩
    exact ⟨⟨v, h.put (by omega) ho hc o'⟩, hne, (World.putObj_heap_other (by omega)).trans hl⟩
  · rintro m pre x W0 W1 ⟨⟨v, h⟩, hne, hl⟩ hlen hb hM
    have h1 := h.later hb
    have hl1 := block_later hl hb
    refine round_at hr hl1 rfl ?_
    simp only [tokV]
    gi_wp2
    have ba : Below W1.heap.size W1 (W1.alloc (.cells #[.int .i64 x.d.kind, .string x.d.text, .bool false, .slice x.ad x.len x.cap, .int .i64 x.d.at'] 35)) := below_alloc _ _
    have y : TB (W1.alloc (.cells #[.int .i64 x.d.kind, .string x.d.text, .bool false, .slice x.ad x.len x.cap, .int .i64 x.d.at'] 35)) W1.heap.size (.int .i64 x.d.kind) (.string x.d.text) (.bool false) (.slice x.ad x.len x.cap) (.int .i64 x.d.at') := tb_new W1 _ _ _ _ _
    generalize (W1.alloc (.cells #[.int .i64 x.d.kind, .string x.d.text, .bool false, .slice x.ad x.len x.cap, .int .i64 x.d.at'] 35)) = Wa at *
    have h2 := h1.later ba
    have hl2 := block_later hl1 ba
    refine ⟨hl2, ?_⟩
    have hM2 : Mg w Wa x := Mg.later ⟨hM.1.outer h.below, hM.2⟩ ba
    have h3 := h2.put (by omega) hl2 rfl (.loop { r with state := .busy })
    have hkP : KT 48 Wa (Wa.putObj (w.heap.size + 4) (.loop { r with state := .busy })) := fun k cs hc => (World.putObj_heap_other (fun e => by subst e; rw [hl2] at hc; cases hc)).trans hc
    have hM3 := mg_kt hM2 h3.below hkP
    have y3 : TB (Wa.putObj (w.heap.size + 4) (.loop { r with state := .busy })) W1.heap.size (.int .i64 x.d.kind) (.string x.d.text) (.bool false) (.slice x.ad x.len x.cap) (.int .i64 x.d.at') := (World.putObj_heap_other (fun e => by rw [e] at y; exact absurd (y.symm.trans hl2) (by simp))).trans y
    have hlc : (Wa.putObj (w.heap.size + 4) (.loop { r with state := .busy })).heap[w.heap.size + 4]? = some (.loop { r with state := .busy }) := World.putObj_heap_same (Array.getElem?_eq_some_iff.1 hl2).1
    have kw1 : KW WW.heap.size W1 (Wa.putObj (w.heap.size + 4) (.loop { r with state := .busy })) := (kw_below ba).trans (kw_put (by omega) _)
    have hlW := (Array.getElem?_eq_some_iff.1 hl).1
    have hmid : ∀ b, W0.heap.size ≤ b → b < W1.heap.size → (Wa.putObj (w.heap.size + 4) (.loop { r with state := .busy })).heap[b]? = W1.heap[b]? := by
      intro b hb1 hb2
      rw [World.putObj_heap_other (by omega)]
      exact ba.block b hb2
    have hsz1 : W1.heap.size ≤ (Wa.putObj (w.heap.size + 4) (.loop { r with state := .busy })).heap.size := by simpa [World.putObj] using ba.size
    rw [show w.heap.size + 3 + 1 = w.heap.size + 4 from rfl]
    generalize Wa.putObj (w.heap.size + 4) (.loop { r with state := .busy }) = Wc at *
    have bc := h3.box.cell
    have bf := h3.box.frozen
    have nc := h3.nbx.cell
    have y0 := y3.c0
    have y1 := y3.c1
    have y2 := y3.c2
    have y4 := y3.c3
    have y5 := y3.c4
    clear h1 hl1 h2 hl2 ba hM2 y y3
    obtain ⟨i0, hi, hz0, hz1, hz2⟩ := info_parts infoTok
    have hne1 : ((pre.length : Int) + 1 == n) = true ∨ ((pre.length : Int) + 1 == n) = false := by cases ((pre.length : Int) + 1 == n) <;> simp
    rcases hne1 with hq | hq
    · have HQ := hide hq
      gi_wp2_with (gi_at_builtin; refine wpListIn_append_own _ rfl _ _ 23 rfl w.heap.size 35 i0 _ 5 64 Tryd.underlying23 hi hz0 hz1 hz2 rfl (by decide) _ _ _ rfl (h3.row.alloc _) ⟨Wc.heap.size, 0, none⟩ 1 1 (V5 x) rfl rfl (v5_new _ _) (v5_one _) (by unfold maxLen; omega) (by omega) (by have := h3.below.size; simp; omega) ?_; intro v' w1 hown' hgrow _; obtain ⟨g', cap', rfl⟩ := ownsRow_succ hown'; obtain ⟨hv1, hv2, hr2, hk2, hb2⟩ := h3.box.appended (by decide) h3.row h3.below.size (by omega) hown' hgrow; have hc1 := hv1.cell; have hf1 := hv1.frozen; have hc2 := hv2.cell; have hT := h3.append hM3 hown' hgrow; have nc2 := hT.nbx.cell; have hkw := ovf_kw (v' := .slice (some ⟨g', 0, none⟩) (pre.length + 1) cap') h3 hgrow)
      have hlF := hk2.same _ _ hlc rfl
      have kwF := ((kw1.mono (show WW.heap.size ≤ w.heap.size + 5 by omega)).trans (hkw.mono (show w.heap.size + 2 ≤ w.heap.size + 5 by omega))).trans (kw_put (show w.heap.size + 4 < w.heap.size + 5 by omega) (.loop { r with state := .done, pending := some (.exit 0) }))
      exact ⟨hlF, kwF, .inr ⟨rfl, ⟨_, hT.put (by omega) hlF rfl _⟩, hide (by simpa using HQ.out), World.putObj_heap_same (Array.getElem?_eq_some_iff.1 hlF).1⟩⟩
    · have HQ := hide hq
      gi_wp2_with (gi_at_builtin; refine wpListIn_append_own _ rfl _ _ 23 rfl w.heap.size 35 i0 _ 5 64 Tryd.underlying23 hi hz0 hz1 hz2 rfl (by decide) _ _ _ rfl (h3.row.alloc _) ⟨Wc.heap.size, 0, none⟩ 1 1 (V5 x) rfl rfl (v5_new _ _) (v5_one _) (by unfold maxLen; omega) (by omega) (by have := h3.below.size; simp; omega) ?_; intro v' w1 hown' hgrow _; obtain ⟨g', cap', rfl⟩ := ownsRow_succ hown'; obtain ⟨hv1, hv2, hr2, hk2, hb2⟩ := h3.box.appended (by decide) h3.row h3.below.size (by omega) hown' hgrow; have hc1 := hv1.cell; have hf1 := hv1.frozen; have hc2 := hv2.cell; have hT := h3.append hM3 hown' hgrow; have nc2 := hT.nbx.cell; have hkw := ovf_kw (v' := .slice (some ⟨g', 0, none⟩) (pre.length + 1) cap') h3 hgrow)
      have hlF := hk2.same _ _ hlc rfl
      have kwF := ((kw1.mono (show WW.heap.size ≤ w.heap.size + 5 by omega)).trans (hkw.mono (show w.heap.size + 2 ≤ w.heap.size + 5 by omega))).trans (kw_put (show w.heap.size + 4 < w.heap.size + 5 by omega) (.loop { r with state := .ready, pending := none }))
      have hne2 : ∀ k : Nat, k ≤ pre.length + 1 → ¬ (k : Int) = n := by
        intro k hk e
        by_cases hkp : k ≤ pre.length
        · exact hne.out k hkp e
        · have : k = pre.length + 1 := by omega
          rw [this] at e
          have h9 := HQ.out
          rw [beq_eq_false_iff_ne] at h9
          exact h9 (by rw [← e]; push_cast; rfl)
      refine ⟨hlF, kwF, .inl ⟨rfl, ⟨⟨_, hT.put (by omega) hlF rfl _⟩, hne2, ?_⟩, ?_⟩⟩
      · rw [World.putObj_heap_same (Array.getElem?_eq_some_iff.1 hlF).1, lrec_again hr]
      · intro b hb1 hb2
        have hbW := h.box.lt
        rw [World.putObj_heap_other (by omega), append_other hgrow (by omega) (fun e => by have := (h.row.lt _ e).2; omega) (by omega)]
        exact hmid b hb1 hb2
  · rintro e W' ⟨hret, ⟨xs, x, p, hx, ⟨v, h⟩, hne, hl⟩ | ⟨xs, ⟨⟨v, h⟩, hln, hl⟩, a, ha⟩⟩
    · refine ⟨hret, .inl ⟨hl, ?_⟩⟩
      obtain ⟨va, vn, vc, rfl⟩ := own_slice h.row
      have h2 := h.put (by omega) hl rfl (.loop { r with state := .exhausted })
      rw [show w.heap.size + 3 + 1 = w.heap.size + 4 from rfl]
      generalize W'.putObj (w.heap.size + 4) (.loop { r with state := .exhausted }) = Wf at *
      have c0 := h2.box.cell
      have hdf := h2.dfr
      have HX : Hid (∃ x p, Lxs s (xs.map TM.d) x p) := ⟨x, p, hx⟩
      clear hx hl
      gi_wp2
      refine ⟨by simp, .inl ⟨_, _, rfl, run_takeDeferred hdf, ?_⟩⟩
      have hB := h2.below.trans (belowK_b (w := w) (Nat.le_refl _) Wf (w.heap.size + 3) _ (.deferred none) (by omega) hdf rfl rfl)
      have hk : ∀ e, KT e Wf (Wf.putObj (w.heap.size + 3) (.deferred none)) := fun e k cs hc => (World.putObj_heap_other (fun e => by subst e; rw [hdf] at hc; cases hc)).trans hc
      exact ⟨_, results_tmp rfl _ _ _, xs, _, rfl, own_kt h2.row (hk _), fun x hx => mg_kt (h2.mag x hx) hB (hk _), hB, .inl ⟨hne.out, HX.out⟩⟩
    · refine ⟨hret, .inr ⟨.exit 0, hl, ?_⟩⟩
      obtain ⟨va, vn, vc, rfl⟩ := own_slice h.row
      have h2 := h.put (by omega) hl rfl (.loop { r with state := .exhausted, pending := some (.exit 0) })
      rw [show w.heap.size + 3 + 1 = w.heap.size + 4 from rfl]
      generalize W'.putObj (w.heap.size + 4) (.loop { r with state := .exhausted, pending := some (.exit 0) }) = Wf at *
      have c0 := h2.box.cell
      have hdf := h2.dfr
      have HX := hide ha
      clear ha hl
      gi_wp2
      refine ⟨by simp, .inl ⟨_, _, rfl, run_takeDeferred hdf, ?_⟩⟩
      have hB := h2.below.trans (belowK_b (w := w) (Nat.le_refl _) Wf (w.heap.size + 3) _ (.deferred none) (by omega) hdf rfl rfl)
      have hk : ∀ e, KT e Wf (Wf.putObj (w.heap.size + 3) (.deferred none)) := fun e k cs hc => (World.putObj_heap_other (fun e => by subst e; rw [hdf] at hc; cases hc)).trans hc
      exact ⟨_, results_tmp rfl _ _ _, xs, _, rfl, own_kt h2.row (hk _), fun x hx => mg_kt (h2.mag x hx) hB (hk _), hB, .inr ⟨hln.out, a, HX.out⟩⟩
end Go.Proofs.YtnikdfmdcoidmabDoor
