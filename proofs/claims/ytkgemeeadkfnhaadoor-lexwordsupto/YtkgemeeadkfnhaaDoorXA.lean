/-
  Layer 3: a text's words in a list.
-/
import Derived.Test.YtkgemeeadkfnhaaDoorX9
namespace Go.Proofs.YtkgemeeadkfnhaaDoor
open Go.RowKit Go.Shelf
attribute [local go_sem] Oper.semAt_some

theorem infoTok : (Tryd.prog.info? 40).map (fun i => (i.zero, i.size, i.bytes)) = some (some (.agg #[.int .i64 0, .string ⟨#[]⟩, .bool false, .slice none 0 0, .int .i64 0]), 5, 64) := by kernel_rfl

theorem v5_new (W : World) (x : TM) : ∀ j u, (V5 x)[j]? = some u → (W.alloc (.cells (V5 x).toArray 40)).cell? ((⟨W.heap.size, 0, none⟩ : Addr).add j) = some u := by
  intro j u h
  rw [Addr.add_lit, cell_of_row _ _ (0 + j) _ _ (0, 0) (heap_alloc_new W _)]
  simpa using h
theorem v5_one (x : TM) : ∀ u ∈ V5 x, u.oneCell' = true := by
  intro u h
  simp [V5] at h
  rcases h with rfl | rfl | rfl | rfl | rfl <;> rfl
theorem own_slice {W : World} {base : Nat} {e : TypeId} {size : Nat} {v : Value} {n : Nat} {xs : List Value} (h : W.ownsRow base e size v n xs) : ∃ a m c, v = .slice a m c := by
  rcases h.2 with ⟨rfl, _⟩ | ⟨g, cap, cur, rfl, _⟩ <;> exact ⟨_, _, _, rfl⟩
/-- rows of one type stay -/
def KT (e : TypeId) (W W' : World) : Prop := ∀ (b : Nat) (cs : Array Value), W.heap[b]? = some (Obj.cells cs e (0, 0)) → W'.heap[b]? = some (Obj.cells cs e (0, 0))
theorem own_kt {W W' : World} {base : Nat} {e : TypeId} {size : Nat} {v : Value} {n : Nat} {xs : List Value} (h : W.ownsRow base e size v n xs) (hk : KT e W W') : W'.ownsRow base e size v n xs := by
  obtain ⟨h1, h2⟩ := h
  refine ⟨h1, ?_⟩
  rcases h2 with h2 | ⟨g, cap, cur, h3, h4, h5, h6⟩
  · exact .inl h2
  · exact .inr ⟨g, cap, cur, h3, h4, hk _ _ h5, h6⟩
theorem out_kt {w W W' : World} {ad : Option Addr} {len cap : Nat} {zs : List Int} (h : Out w W ad len cap zs) (hB : Below w.heap.size w W') (hk : KT 64 W W') : Out w W' ad len cap zs := by
  obtain ⟨_, h2⟩ := h
  refine ⟨hB, ?_⟩
  rcases h2 with h2 | ⟨b, ys, h3, h4, h5, h6⟩
  · exact .inl h2
  · exact .inr ⟨b, ys, h3, h4, hk _ _ h5, h6⟩
theorem spz_kt {W W' : World} {base : Nat} {e : TypeId} {size : Nat} {v : Value} {n : Nat} {xs : List Value} {zc : Array Value} (h : W.ownsRow base e size v n xs) (hz : SpZ W zc v) (hk : KT e W W') : SpZ W' zc v := by
  refine hz.same (fun g hg => ?_)
  rcases h.2 with ⟨e, _⟩ | ⟨g', cap, cur, e, _, h5, _⟩
  · rw [e] at hg; cases hg
  · rw [e] at hg
    obtain rfl : g' = g := Option.some.inj hg
    rw [h5]
    exact hk _ _ h5
theorem mg_kt {w W W' : World} {x : TM} (h : Mg w W x) (hB : Below w.heap.size w W') (hk : KT 64 W W') : Mg w W' x := ⟨out_kt h.1 hB hk, h.2⟩
theorem kt_end {W Wg : World} {b D : Nat} {t1 t2 e : TypeId} {cs1 cs2 : Array Value} {o o' : Obj} (h1 : W.heap[b]? = some (.cells cs1 t1 (0, 0))) (h2 : W.heap[b + 1]? = some (.cells cs2 t2 (0, 0))) (h3 : ∀ k, k ≠ b → k ≠ b + 1 → Wg.heap[k]? = W.heap[k]?) (hD : W.heap[D]? = some o) (ho : o.isCells = false) (ht1 : e ≠ t1) (ht2 : e ≠ t2) :
    KT e W (Wg.putObj D o') := by
  intro k cs hk
  have n1 : k ≠ b := by rintro rfl; rw [hk] at h1; exact ht1 (Obj.cells.inj (Option.some.inj h1)).2.1
  have n2 : k ≠ b + 1 := by rintro rfl; rw [hk] at h2; exact ht2 (Obj.cells.inj (Option.some.inj h2)).2.1
  have n3 : k ≠ D := by rintro rfl; rw [hk] at hD; rw [← Option.some.inj hD] at ho; cases ho
  rw [World.putObj_heap_other n3, h3 k n1 n2]
  exact hk
theorem results_sm {P : Program} {fn : Func} {p1 p2 : Tmp} {ty1 ty2 e : TypeId} (h : fn.results = #[.cell p1 ty1, .cell p2 ty2]) (tmps : Array Value) (w : World) (g1 g2 : Nat) (v : Value) (t1 t2 : TypeId) (cs2 : Array Value) (fr1 fr2 : Nat × Nat) (d2 : TypeDesc)
    (hp1 : tmps.getD p1 undef = .pointer (some ⟨g1, 0, none⟩)) (hp2 : tmps.getD p2 undef = .pointer (some ⟨g2, 0, none⟩)) (hg1 : w.heap[g1]? = some (.cells #[v] t1 fr1)) (hg2 : w.heap[g2]? = some (.cells cs2 t2 fr2))
    (hu1 : P.underlying ty1 = some (.slice e)) (hu2 : P.underlying ty2 = some d2) (hd2 : (match d2 with | .struct _ | .array _ _ => true | _ => false) = true) (hi2 : (P.info? ty2).map (·.size) = some cs2.size) :
    (results fn tmps).run P w = .ok (.tuple #[v, .agg cs2]) w := by
  have hp1' : tmps[p1]?.getD undef = .pointer (some ⟨g1, 0, none⟩) := by simpa using hp1
  have hp2' : tmps[p2]?.getD undef = .pointer (some ⟨g2, 0, none⟩) := by simpa using hp2
  have hc := cell_of_row w g1 0 _ _ fr1 hg1
  have hl : (loadVar ty1 ⟨g1, 0, none⟩).run P w = .ok v w := by
    simp [loadVar, isAgg, run_underlying hu1, go_sem, hc]
  simp [results, h, hp1', hp2', asAddr, hl, run_loadVar_row w g2 t2 ty2 cs2 fr2 d2 hg2 hu2 hd2 hi2]
theorem two_set {W : World} {b : Nat} {t1 t2 : TypeId} {u : Value} {p q : Value} (h1 : Boxed W b t1 u) (h2 : W.heap[b + 1]? = some (.cells #[p, q] t2 (0, 0))) (v x y : Value) :
    (((W.setCell ⟨b, 0, none⟩ v).setCell ⟨b + 1, 0, none⟩ x).setCell ⟨b + 1, 1, none⟩ y).heap[b]? = some (.cells #[v] t1 (0, 0)) ∧
    (((W.setCell ⟨b, 0, none⟩ v).setCell ⟨b + 1, 0, none⟩ x).setCell ⟨b + 1, 1, none⟩ y).heap[b + 1]? = some (.cells #[x, y] t2 (0, 0)) ∧
    ∀ k, k ≠ b → k ≠ b + 1 → (((W.setCell ⟨b, 0, none⟩ v).setCell ⟨b + 1, 0, none⟩ x).setCell ⟨b + 1, 1, none⟩ y).heap[k]? = W.heap[k]? := by
  have e : b ≠ b + 1 := by omega
  refine ⟨?_, ?_, ?_⟩
  · rw [Below.heap_setCell _ _ _ _ e, Below.heap_setCell _ _ _ _ e]
    exact heap_setCell_same W b 0 _ _ _ h1
  · have y0 : (W.setCell ⟨b, 0, none⟩ v).heap[b + 1]? = some (.cells #[p, q] t2 (0, 0)) := (Below.heap_setCell _ _ _ _ (Ne.symm e)).trans h2
    have y1 := heap_setCell_same _ _ 0 _ _ x y0
    have y2 := heap_setCell_same _ _ 1 _ _ y y1
    simpa using y2
  · intro k h1 h2
    rw [Below.heap_setCell _ _ _ _ h2, Below.heap_setCell _ _ _ _ h2, Below.heap_setCell _ _ _ _ h1]
/-- what is over when an error has come -/
def TkE (w : World) (x : Int) (p : Nat) (r : Loop) (W : World) : Prop :=
  Below w.heap.size w W ∧ Boxed W w.heap.size 34 (.slice none 0 0) ∧ W.heap[w.heap.size + 1]? = some (.cells #[.int .i64 x, .int .i64 p] 29 (0, 0)) ∧ W.heap[w.heap.size + 4]? = some (.deferred (some [])) ∧
  W.heap[w.heap.size + 5]? = some (.loop { r with state := .done, pending := some .ret })

theorem tkf_new {w : World} (s : ByteArray) (r : Loop) : TkF w s (.slice none 0 0) [] ((((((w.alloc (.cells #[.slice none 0 0] 34)).alloc (.cells #[.int .i64 0, .int .i64 0] 29)).alloc (.cells #[.slice none 0 0] 34)).alloc (.cells #[.string s] 9)).alloc (.deferred (some []))).alloc (.loop r)) := by
  have b1 := below_alloc w (.cells #[.slice none 0 0] 34)
  have n1 := heap_alloc_new w (.cells #[.slice none 0 0] 34)
  have s1 : (w.alloc (.cells #[.slice none 0 0] 34)).heap.size = w.heap.size + 1 := by simp
  generalize w.alloc (.cells #[.slice none 0 0] 34) = w1 at *
  have b2 := below_alloc w1 (.cells #[.int .i64 0, .int .i64 0] 29)
  have n2 := heap_alloc_new w1 (.cells #[.int .i64 0, .int .i64 0] 29)
  have s2 : (w1.alloc (.cells #[.int .i64 0, .int .i64 0] 29)).heap.size = w.heap.size + 1 + 1 := by simp [s1]
  rw [s1] at n2
  generalize w1.alloc (.cells #[.int .i64 0, .int .i64 0] 29) = w2 at *
  have b3 := below_alloc w2 (.cells #[.slice none 0 0] 34)
  have n3 := heap_alloc_new w2 (.cells #[.slice none 0 0] 34)
  have s3 : (w2.alloc (.cells #[.slice none 0 0] 34)).heap.size = w.heap.size + 1 + 1 + 1 := by simp [s2]
  rw [s2] at n3
  generalize w2.alloc (.cells #[.slice none 0 0] 34) = w3 at *
  have b4 := below_alloc w3 (.cells #[.string s] 9)
  have n4 := heap_alloc_new w3 (.cells #[.string s] 9)
  have s4 : (w3.alloc (.cells #[.string s] 9)).heap.size = w.heap.size + 4 := by simp [s3]
  rw [s3] at n4
  generalize w3.alloc (.cells #[.string s] 9) = w4 at *
  have b5 := below_alloc w4 (.deferred (some []))
  have n5 := heap_alloc_new w4 (.deferred (some []))
  rw [s4] at n5
  generalize w4.alloc (.deferred (some [])) = w5 at *
  have b6 := below_alloc w5 (.loop r)
  generalize w5.alloc (.loop r) = w6 at *
  have b56 := grow_step b6 b5
  have b46 := grow_step b56 b4
  have b36 := grow_step b46 b3
  have b26 := grow_step b36 b2
  have b16 := grow_step b26 b1
  exact ⟨b16, block_later n1 b26, block_later n2 b36, block_later n3 b46, block_later n4 b56, block_later n5 b6, World.ownsRow_nil _ _ _ _, fun x hx => (by cases hx), spz_nil _ _⟩
theorem tke_of {w : World} {s : ByteArray} {v : Value} {xs : List TM} {W : World} {r : Loop} (h : TkF w s v xs W) (hl : W.heap[w.heap.size + 4 + 1]? = some (.loop { r with state := .busy })) (x : Int) (p : Nat) :
    (((W.setCell ⟨w.heap.size, 0, none⟩ (.slice none 0 0)).setCell ⟨w.heap.size + 1, 0, none⟩ (.int .i64 x)).setCell ⟨w.heap.size + 1, 1, none⟩ (.int .i64 p)).drew.heap[w.heap.size + 4 + 1]? = some (.loop { r with state := .busy }) ∧
    TkE w x p r ((((W.setCell ⟨w.heap.size, 0, none⟩ (.slice none 0 0)).setCell ⟨w.heap.size + 1, 0, none⟩ (.int .i64 x)).setCell ⟨w.heap.size + 1, 1, none⟩ (.int .i64 p)).drew.putObj (w.heap.size + 4 + 1) (.loop { r with state := .done, pending := some .ret })) := by
  have e1 : ∀ b, b ≠ w.heap.size → b ≠ w.heap.size + 1 → (((W.setCell ⟨w.heap.size, 0, none⟩ (.slice none 0 0)).setCell ⟨w.heap.size + 1, 0, none⟩ (.int .i64 x)).setCell ⟨w.heap.size + 1, 1, none⟩ (.int .i64 p)).drew.heap[b]? = W.heap[b]? := by
    intro b h1 h2
    show (((W.setCell ⟨w.heap.size, 0, none⟩ (.slice none 0 0)).setCell ⟨w.heap.size + 1, 0, none⟩ (.int .i64 x)).setCell ⟨w.heap.size + 1, 1, none⟩ (.int .i64 p)).heap[b]? = _
    rw [Below.heap_setCell _ _ _ _ h2, Below.heap_setCell _ _ _ _ h2, Below.heap_setCell _ _ _ _ h1]
  have hlF := (e1 (w.heap.size + 4 + 1) (by omega) (by omega)).trans hl
  have hbB : Below w.heap.size w (((W.setCell ⟨w.heap.size, 0, none⟩ (.slice none 0 0)).setCell ⟨w.heap.size + 1, 0, none⟩ (.int .i64 x)).setCell ⟨w.heap.size + 1, 1, none⟩ (.int .i64 p)).drew :=
    (((h.below.setCell (p := ⟨w.heap.size, 0, none⟩) (Nat.le_refl _) _).setCell (p := ⟨w.heap.size + 1, 0, none⟩) (by simp) _).setCell (p := ⟨w.heap.size + 1, 1, none⟩) (by simp) _).drew
  refine ⟨hlF, hbB.trans (belowK_b (w := w) (Nat.le_refl _) _ _ _ _ (by omega) hlF rfl rfl), ?_, ?_, ?_, ?_⟩
  · refine (World.putObj_heap_other (by omega)).trans ?_
    show (((W.setCell ⟨w.heap.size, 0, none⟩ (.slice none 0 0)).setCell ⟨w.heap.size + 1, 0, none⟩ (.int .i64 x)).setCell ⟨w.heap.size + 1, 1, none⟩ (.int .i64 p)).heap[w.heap.size]? = _
    have e : w.heap.size ≠ w.heap.size + 1 := by omega
    rw [Below.heap_setCell _ _ _ _ e, Below.heap_setCell _ _ _ _ e]
    exact heap_setCell_same W w.heap.size 0 _ _ _ h.res
  · refine (World.putObj_heap_other (by omega)).trans ?_
    have y0 : (W.setCell ⟨w.heap.size, 0, none⟩ (.slice none 0 0)).heap[w.heap.size + 1]? = some (.cells #[.int .i64 0, .int .i64 0] 29 (0, 0)) := (Below.heap_setCell _ _ _ _ (show w.heap.size + 1 ≠ w.heap.size by omega)).trans h.mis
    have y1 := heap_setCell_same _ _ 0 _ _ (.int .i64 x) y0
    have y2 := heap_setCell_same _ _ 1 _ _ (.int .i64 p) y1
    show (((W.setCell ⟨w.heap.size, 0, none⟩ (.slice none 0 0)).setCell ⟨w.heap.size + 1, 0, none⟩ (.int .i64 x)).setCell ⟨w.heap.size + 1, 1, none⟩ (.int .i64 p)).heap[w.heap.size + 1]? = _
    simpa using y2
  · refine (World.putObj_heap_other (by omega)).trans ?_
    exact (e1 _ (by omega) (by omega)).trans h.dfr
  · exact World.putObj_heap_same (Array.getElem?_eq_some_iff.1 hlF).1

set_option maxRecDepth 100000 in
set_option maxHeartbeats 3200000 in
theorem tokens_any (s : ByteArray) (w : World) (hs : s.size ≤ 1099511627776) (hS : Sgn w) :
    Calls Tryd.prog 11 #[.string s] w fun e w' =>
      (∃ (xs : List TM) (v : Value), Lxs s (xs.map TM.d) 0 0 ∧ e = .returned (.tuple #[v, misV 0 0]) ∧ w'.ownsRow w.heap.size 40 5 v xs.length (xs.flatMap V5) ∧ (∀ x ∈ xs, Mg w w' x) ∧ SpZ w' tokZ v ∧ Below w.heap.size w w') ∨
      (∃ ts x p, Lxs s ts x p ∧ x ≠ 0 ∧ e = .returned (.tuple #[.slice none 0 0, misV x (p : Nat)]) ∧ Below w.heap.size w w') := by
  obtain ⟨i0, hi, hz0, hz1, hz2⟩ := info_parts infoTok
  refine (callsIn_wide (n := 3)).1 ?_
  refine callsIn_of_wp_marks Tryd.func11 rfl trivial ?_ rfl
  simp only [Tryd.ntmps11, List.size_toArray, List.length_cons, List.length_nil, Nat.reduceAdd, Nat.reduceSub, Array.replicate_succ, Array.replicate_zero, List.push_toArray, List.append_toArray, List.nil_append, List.cons_append]
  gi_wp2
  refine ⟨trivial, (callsIn_wide.2 (scan_any s _)).mono ?_⟩
  rintro e w' ⟨rfl, rfl⟩
  gi_wp2
  refine range_enter rfl (enters_of Tryd.func22 (by kernel_rfl) rfl) (fun fn r hr => ?_)
  have hF : TkF w s (.slice none 0 0) [] ((((((w.alloc (.cells #[.slice none 0 0] 34)).alloc (.cells #[.int .i64 0, .int .i64 0] 29)).alloc (.cells #[.slice none 0 0] 34)).alloc (.cells #[.string s] 9)).alloc (.deferred (some []))).alloc (.loop r)) := tkf_new s r
  have hL : ((((((w.alloc (.cells #[.slice none 0 0] 34)).alloc (.cells #[.int .i64 0, .int .i64 0] 29)).alloc (.cells #[.slice none 0 0] 34)).alloc (.cells #[.string s] 9)).alloc (.deferred (some []))).alloc (.loop r)).heap[w.heap.size + 5]? = some (.loop r) := by
    have := heap_alloc_new (((((w.alloc (.cells #[.slice none 0 0] 34)).alloc (.cells #[.int .i64 0, .int .i64 0] 29)).alloc (.cells #[.slice none 0 0] 34)).alloc (.cells #[.string s] 9)).alloc (.deferred (some []))) (.loop r)
    simpa using this
  have hsz : ((((w.alloc (.cells #[.slice none 0 0] 34)).alloc (.cells #[.int .i64 0, .int .i64 0] 29)).alloc (.cells #[.slice none 0 0] 34)).alloc (.cells #[.string s] 9)).heap.size = w.heap.size + 4 := by simp
  rw [hsz]
  generalize (((((w.alloc (.cells #[.slice none 0 0] 34)).alloc (.cells #[.int .i64 0, .int .i64 0] 29)).alloc (.cells #[.slice none 0 0] 34)).alloc (.cells #[.string s] 9)).alloc (.deferred (some []))).alloc (.loop r) = WW at *
  clear hsz
  have herr : ∀ (pre : List TM) (x : Int) (p : Nat) (W : World), ((∃ v, TkF w s v pre W) ∧ W.heap[w.heap.size + 5]? = some (.loop r)) → x ≠ 0 → YieldAt Fence.wide (3 - 1 - 1) Tryd.prog (w.heap.size + 4 + 1) #[tok0, misV x (p : Nat)] W fun e W' => (∃ b, e = .returned (.bool b)) ∧ TkE w x p r W' := by
    rintro pre x p W ⟨⟨v, h⟩, hl⟩ hx
    have hxb : (x == 0) = false := by rw [beq_eq_false_iff_ne]; exact hx
    refine round_at hr hl rfl ?_
    simp only [tok0, misV]
    gi_wp2
    have ba : Below W.heap.size W ((W.alloc (.cells #[.int .i64 0, .string ⟨#[]⟩, .bool false, .slice none 0 0, .int .i64 0] 40)).alloc (.cells #[.int .i64 x, .int .i64 p] 29)) := below_alloc' (below_alloc _ _) _
    have z : ((W.alloc (.cells #[.int .i64 0, .string ⟨#[]⟩, .bool false, .slice none 0 0, .int .i64 0] 40)).alloc (.cells #[.int .i64 x, .int .i64 p] 29)).heap[W.heap.size + 1]? = some (.cells #[.int .i64 x, .int .i64 p] 29 (0, 0)) := by
      have := heap_alloc_new (W.alloc (.cells #[.int .i64 0, .string ⟨#[]⟩, .bool false, .slice none 0 0, .int .i64 0] 40)) (.cells #[.int .i64 x, .int .i64 p] 29)
      simpa using this
    generalize (W.alloc (.cells #[.int .i64 0, .string ⟨#[]⟩, .bool false, .slice none 0 0, .int .i64 0] 40)).alloc (.cells #[.int .i64 x, .int .i64 p] 29) = Wa at *
    have h2 := h.later ba
    have hl2 := block_later hl ba
    refine ⟨hl2, ?_⟩
    have h3 := h2.put hl2 (by omega) { r with state := .busy }
    have z3 : (Wa.putObj (w.heap.size + 4 + 1) (.loop { r with state := .busy })).heap[W.heap.size + 1]? = some (.cells #[.int .i64 x, .int .i64 p] 29 (0, 0)) := (World.putObj_heap_other (fun e => by rw [e, hl2] at z; cases z)).trans z
    have hlc : (Wa.putObj (w.heap.size + 4 + 1) (.loop { r with state := .busy })).heap[w.heap.size + 4 + 1]? = some (.loop { r with state := .busy }) := World.putObj_heap_same (Array.getElem?_eq_some_iff.1 hl2).1
    generalize Wa.putObj (w.heap.size + 4 + 1) (.loop { r with state := .busy }) = Wc at *
    have zc : Wc.cell? ⟨W.heap.size + 1, 0, none⟩ = some (.int .i64 x) := cell_of_row Wc _ 0 _ _ (0, 0) z3
    have zd : Wc.cell? ⟨W.heap.size + 1, 1, none⟩ = some (.int .i64 p) := cell_of_row Wc _ 1 _ _ (0, 0) z3
    have c0 := h3.res.cell
    have f0 := h3.res.frozen
    have c1 := cell_of_row Wc _ 0 _ _ (0, 0) h3.mis
    have c2 := cell_of_row Wc _ 1 _ _ (0, 0) h3.mis
    have f1 := frozen_of_row Wc _ 0 _ _ h3.mis
    have f2 := frozen_of_row Wc _ 1 _ _ h3.mis
    have hWl := (Array.getElem?_eq_some_iff.1 hl).1
    have n1 : ¬ (W.heap.size + 1 = w.heap.size) := by omega
    have n2 : ¬ (W.heap.size + 1 = w.heap.size + 1) := by omega
    have n3 : ¬ (w.heap.size = W.heap.size + 1) := by omega
    have n4 : ¬ (w.heap.size + 1 = W.heap.size + 1) := by omega
    have n5 : ¬ (w.heap.size + 1 = w.heap.size) := by omega
    have n6 : ¬ (w.heap.size = w.heap.size + 1) := by omega
    clear h hl h2 hl2 ba z
    gi_wp2
    have hmx : Tryd.prog.follows .mixedOrders = true := by kernel_rfl
    have hfin := tke_of h3 hlc x p
    gi_region_with_o (fail)
    all_goals gi_wp2
    all_goals exact ⟨hfin.1, .inl rfl, hfin.2⟩
  by_cases hlong : 4096 < s.size
  · refine (scan1_long s (w.heap.size + 1 + 1 + 1) (w.heap.size + 4 + 1) _ WW (fun W => (∃ v, TkF w s v [] W) ∧ W.heap[w.heap.size + 5]? = some (.loop r)) (fun W => TkE w 40 0 r W) ?_ hF.txt.cell hlong hs ⟨⟨_, hF⟩, hL⟩).mono ?_
    · exact fun W hJ => herr [] 40 0 W hJ (by decide)
    · rintro e W' ⟨hret, hE⟩
      refine ⟨hret, .inr ⟨.ret, hE.2.2.2.2, ?_⟩⟩
      obtain ⟨e1, e2, e3, e4, e5⟩ := hE
      gi_wp2
      have hdf := (World.putObj_heap_other (r := w.heap.size + 4 + 1) (o := .loop { r with state := .exhausted, pending := some .ret }) (by omega)).trans e4
      refine ⟨by simp, .inl ⟨_, _, rfl, run_takeDeferred hdf, ?_⟩⟩
      refine ⟨_, results_sm rfl _ _ w.heap.size (w.heap.size + 1) _ _ _ _ _ _ _ rfl rfl ((World.putObj_heap_other (by omega)).trans ((World.putObj_heap_other (by omega)).trans e2)) ((World.putObj_heap_other (by omega)).trans ((World.putObj_heap_other (by omega)).trans e3)) Tryd.underlying34 Tryd.underlying29 rfl (by kernel_rfl), ?_⟩
      refine .inr ⟨[], 40, 0, by unfold Lxs; rw [if_pos hlong]; exact ⟨rfl, rfl, rfl⟩, by decide, rfl, (e1.trans (belowK_b (w := w) (Nat.le_refl _) W' _ _ _ (by omega) e5 rfl rfl)).trans (belowK_b (w := w) (Nat.le_refl _) _ (w.heap.size + 4) _ _ (by omega) hdf rfl rfl)⟩
  · refine (scan1_short s (w.heap.size + 1 + 1 + 1) (w.heap.size + 4 + 1) _ WW (fun xs W => (∃ v, TkF w s v xs W) ∧ W.heap[w.heap.size + 5]? = some (.loop r)) (fun _ _ => False) (fun _ x p W => x ≠ 0 ∧ TkE w x p r W) ?_ ?_ ?_ ?_ (by omega) ⟨⟨_, hF⟩, hL⟩).mono ?_
    · rintro xs W ⟨⟨v, h⟩, -⟩
      exact ⟨h.txt.cell, hS.below h.below⟩
    · rintro xs W W' ⟨⟨v, h⟩, h'⟩ hb
      exact ⟨⟨v, h.later hb⟩, block_later h' hb⟩
    · rintro pre x W0 W1 ⟨⟨v, h⟩, hl⟩ hlen hb hM -
      have h1 := h.later hb
      have hl1 := block_later hl hb
      refine round_at hr hl1 rfl ?_
      simp only [tokV, misV]
      gi_wp2
      have ba : Below W1.heap.size W1 ((W1.alloc (.cells #[.int .i64 x.d.kind, .string x.d.text, .bool false, .slice x.ad x.len x.cap, .int .i64 x.d.at'] 40)).alloc (.cells #[.int .i64 0, .int .i64 0] 29)) := below_alloc' (below_alloc _ _) _
      have y : TB ((W1.alloc (.cells #[.int .i64 x.d.kind, .string x.d.text, .bool false, .slice x.ad x.len x.cap, .int .i64 x.d.at'] 40)).alloc (.cells #[.int .i64 0, .int .i64 0] 29)) W1.heap.size (.int .i64 x.d.kind) (.string x.d.text) (.bool false) (.slice x.ad x.len x.cap) (.int .i64 x.d.at') := (tb_new W1 _ _ _ _ _).below (below_alloc _ _)
      have z : ((W1.alloc (.cells #[.int .i64 x.d.kind, .string x.d.text, .bool false, .slice x.ad x.len x.cap, .int .i64 x.d.at'] 40)).alloc (.cells #[.int .i64 0, .int .i64 0] 29)).heap[W1.heap.size + 1]? = some (.cells #[.int .i64 0, .int .i64 0] 29 (0, 0)) := by
        have := heap_alloc_new (W1.alloc (.cells #[.int .i64 x.d.kind, .string x.d.text, .bool false, .slice x.ad x.len x.cap, .int .i64 x.d.at'] 40)) (.cells #[.int .i64 0, .int .i64 0] 29)
        simpa using this
      generalize (W1.alloc (.cells #[.int .i64 x.d.kind, .string x.d.text, .bool false, .slice x.ad x.len x.cap, .int .i64 x.d.at'] 40)).alloc (.cells #[.int .i64 0, .int .i64 0] 29) = Wa at *
      have h2 := h1.later ba
      have hl2 := block_later hl1 ba
      refine ⟨hl2, ?_⟩
      have hM2 : Mg w W1 x := ⟨hM.1.outer h.below, hM.2⟩
      have h3 := h2.put hl2 (by omega) { r with state := .busy }
      have hM3 := (hM2.later ba).move h3.below h2.box (kx_put hl2 { r with state := .busy })
      have y3 : TB (Wa.putObj (w.heap.size + 4 + 1) (.loop { r with state := .busy })) W1.heap.size (.int .i64 x.d.kind) (.string x.d.text) (.bool false) (.slice x.ad x.len x.cap) (.int .i64 x.d.at') := (World.putObj_heap_other (fun e => by rw [e] at y; exact absurd (y.symm.trans hl2) (by simp))).trans y
      have z3 : (Wa.putObj (w.heap.size + 4 + 1) (.loop { r with state := .busy })).heap[W1.heap.size + 1]? = some (.cells #[.int .i64 0, .int .i64 0] 29 (0, 0)) := (World.putObj_heap_other (fun e => by rw [e, hl2] at z; cases z)).trans z
      have hlc : (Wa.putObj (w.heap.size + 4 + 1) (.loop { r with state := .busy })).heap[w.heap.size + 4 + 1]? = some (.loop { r with state := .busy }) := World.putObj_heap_same (Array.getElem?_eq_some_iff.1 hl2).1
      have hmid : ∀ b, W0.heap.size ≤ b → b < W1.heap.size → (Wa.putObj (w.heap.size + 4 + 1) (.loop { r with state := .busy })).heap[b]? = W1.heap[b]? := by
        intro b hb1 hb2
        rw [World.putObj_heap_other (by have := (Array.getElem?_eq_some_iff.1 hl).1; omega)]
        exact ba.block b hb2
      have hsz1 : W1.heap.size ≤ (Wa.putObj (w.heap.size + 4 + 1) (.loop { r with state := .busy })).heap.size := by simpa [World.putObj] using ba.size
      generalize Wa.putObj (w.heap.size + 4 + 1) (.loop { r with state := .busy }) = Wc at *
      have zc : Wc.cell? ⟨W1.heap.size + 1, 0, none⟩ = some (.int .i64 0) := cell_of_row Wc _ 0 _ _ (0, 0) z3
      have bc := h3.box.cell
      have bf := h3.box.frozen
      have y0 := y3.c0
      have y1 := y3.c1
      have y2 := y3.c2
      have y4 := y3.c3
      have y5 := y3.c4
      clear h1 hl1 h2 hl2 ba hM2 y z z3 y3 hi
      obtain ⟨i0, hi, hz0, hz1, hz2⟩ := info_parts infoTok
      gi_wp2_with (gi_at_builtin; refine wpListIn_append_z rfl _ _ 34 rfl w.heap.size 40 i0 _ 5 64 Tryd.underlying34 hi hz0 hz1 hz2 rfl (by decide) _ _ _ rfl (h3.row.alloc _) (h3.spz.below (below_alloc _ _)) ⟨Wc.heap.size, 0, none⟩ 1 (V5 x) rfl rfl (v5_new _ _) (v5_one _) (by unfold maxLen; omega) (by omega) (by have := h3.below.size; simp; omega) ?_; intro v' w1 hown' hgrow hspz; obtain ⟨g', cap', rfl⟩ := ownsRow_succ hown'; obtain ⟨hv1, hv2, hr2, hk2, hb2⟩ := h3.box.appended (by decide) h3.row h3.below.size (by omega) hown' hgrow; have hc1 := hv1.cell; have hf1 := hv1.frozen)
      have hT := h3.append hM3 hown' hgrow hspz
      have hlF := hk2.same _ _ hlc rfl
      have hT2 := hT.put hlF (by omega) { r with state := .ready, pending := none }
      refine ⟨hlF, rfl, ⟨⟨_, hT2⟩, ?_⟩, ?_⟩
      · rw [World.putObj_heap_same (Array.getElem?_eq_some_iff.1 hlF).1, lrec_again hr]
      · intro b hb1 hb2
        have hlW := (Array.getElem?_eq_some_iff.1 hl).1
        have hbW := h.box.lt
        rw [World.putObj_heap_other (by omega), append_other hgrow (by have := hsz1; omega) (fun e => by have := (h.row.lt _ e).2; omega) (by omega)]
        exact hmid b hb1 hb2
    · intro pre x p W hJ hx
      obtain ⟨fn', tm', as', bo', hy', hR'⟩ := herr pre x p W hJ hx
      exact ⟨fn', tm', as', bo', hy', hR'.mono (fun e W' h => ⟨h.1, hx, h.2⟩)⟩
    · rintro e W' ⟨hret, ⟨xs, hx, ⟨v, h⟩, hl⟩ | ⟨xs, x, p, hx, hx0, hE⟩ | ⟨_, hf, _⟩⟩
      · refine ⟨hret, .inl ⟨hl, ?_⟩⟩
        obtain ⟨va, vn, vc, rfl⟩ := own_slice h.row
        have h2 := h.put hl (by omega) { r with state := .exhausted }
        generalize W'.putObj (w.heap.size + 4 + 1) (.loop { r with state := .exhausted }) = Wf at *
        have c0 := h2.res.cell
        have f0 := h2.res.frozen
        have c1 := cell_of_row Wf _ 0 _ _ (0, 0) h2.mis
        have c2 := cell_of_row Wf _ 1 _ _ (0, 0) h2.mis
        have f1 := frozen_of_row Wf _ 0 _ _ h2.mis
        have f2 := frozen_of_row Wf _ 1 _ _ h2.mis
        have c3 := h2.box.cell
        have ht := two_set h2.res h2.mis (.slice va vn vc) (.int .i64 0) (.int .i64 0)
        have hB : Below w.heap.size w (((Wf.setCell ⟨w.heap.size, 0, none⟩ (.slice va vn vc)).setCell ⟨w.heap.size + 1, 0, none⟩ (.int .i64 0)).setCell ⟨w.heap.size + 1, 1, none⟩ (.int .i64 0)) :=
          ((h2.below.setCell (p := ⟨w.heap.size, 0, none⟩) (Nat.le_refl _) _).setCell (p := ⟨w.heap.size + 1, 0, none⟩) (by simp) _).setCell (p := ⟨w.heap.size + 1, 1, none⟩) (by simp) _
        gi_wp2
        generalize ((Wf.setCell ⟨w.heap.size, 0, none⟩ (.slice va vn vc)).setCell ⟨w.heap.size + 1, 0, none⟩ (.int .i64 0)).setCell ⟨w.heap.size + 1, 1, none⟩ (.int .i64 0) = Wg at *
        have hdf := (ht.2.2 (w.heap.size + 4) (by omega) (by omega)).trans h2.dfr
        refine ⟨by simp, .inl ⟨_, _, rfl, run_takeDeferred hdf, ?_⟩⟩
        refine ⟨_, results_sm rfl _ _ w.heap.size (w.heap.size + 1) _ _ _ _ _ _ _ rfl rfl ((World.putObj_heap_other (by omega)).trans ht.1) ((World.putObj_heap_other (by omega)).trans ht.2.1) Tryd.underlying34 Tryd.underlying29 rfl (by kernel_rfl), ?_⟩
        have hBf := hB.trans (belowK_b (w := w) (Nat.le_refl _) Wg (w.heap.size + 4) _ (.deferred none) (by omega) hdf rfl rfl)
        refine .inl ⟨xs, by unfold Lxs; rw [if_neg hlong]; exact hx, _, rfl, own_kt h2.row (kt_end h2.res h2.mis ht.2.2 h2.dfr rfl (by decide) (by decide)), fun x hx => mg_kt (h2.mag x hx) hBf (kt_end h2.res h2.mis ht.2.2 h2.dfr rfl (by decide) (by decide)), spz_kt h2.row h2.spz (kt_end h2.res h2.mis ht.2.2 h2.dfr rfl (by decide) (by decide)), hBf⟩
      · refine ⟨hret, .inr ⟨.ret, hE.2.2.2.2, ?_⟩⟩
        obtain ⟨e1, e2, e3, e4, e5⟩ := hE
        gi_wp2
        have hdf := (World.putObj_heap_other (r := w.heap.size + 4 + 1) (o := .loop { r with state := .exhausted, pending := some .ret }) (by omega)).trans e4
        refine ⟨by simp, .inl ⟨_, _, rfl, run_takeDeferred hdf, ?_⟩⟩
        refine ⟨_, results_sm rfl _ _ w.heap.size (w.heap.size + 1) _ _ _ _ _ _ _ rfl rfl ((World.putObj_heap_other (by omega)).trans ((World.putObj_heap_other (by omega)).trans e2)) ((World.putObj_heap_other (by omega)).trans ((World.putObj_heap_other (by omega)).trans e3)) Tryd.underlying34 Tryd.underlying29 rfl (by kernel_rfl), ?_⟩
        refine .inr ⟨_, _, _, by unfold Lxs; rw [if_neg hlong]; exact hx, hx0, rfl, (e1.trans (belowK_b (w := w) (Nat.le_refl _) W' _ _ _ (by omega) e5 rfl rfl)).trans (belowK_b (w := w) (Nat.le_refl _) _ (w.heap.size + 4) _ _ (by omega) hdf rfl rfl)⟩
      · exact hf.elim
end Go.Proofs.YtkgemeeadkfnhaaDoor
