/-
 The walk of the law LexWords.
-/
import Derived.Test.YtcgdhbgjmapoeaaDoorP21
import Derived.Test.YtcgdhbgjmapoeaaDoorP23
import Derived.Test.YtcgdhbgjmapoeaaDoorP16
import Derived.Test.YtcgdhbgjmapoeaaDoorP13
import Derived.Laws.EntriesVeiled
namespace Go.Proofs.YtcgdhbgjmapoeaaDoor
open Go.RowKit Go.Shelf
attribute [local go_sem] Oper.semAt_some

set_option maxRecDepth 100000 in
set_option maxHeartbeats 6400000 in
theorem lexWords_walk {s : ByteArray} {m : Int} {w : World} (hs : s.size ≤ 1048576) (hm0 : -9223372036854775808 ≤ m) (hm1 : m ≤ 9223372036854775807) (hS : Sgn w) :
  Calls Tryd.prog 4 #[.string s, .int .i64 m] w fun e w' => e = .returned (.bool true) ∧ Below w.heap.size w w' := by
 refine (callsIn_wide (n := 5)).1 ?_
 refine callsIn_of_wp_marks Tryd.func4 rfl trivial ?_ rfl
 simp only [Tryd.ntmps4, List.size_toArray, List.length_cons, List.length_nil, Nat.reduceAdd, Nat.reduceSub, Array.replicate_succ, Array.replicate_zero, List.push_toArray, List.append_toArray, List.nil_append, List.cons_append]
 gi_wp2
 refine ⟨trivial, (callsIn_wide.2 (known3_any _ (hS.below (below_alloc _ _)))).mono ?_⟩
 rintro e w1 ⟨rfl, b1⟩
 have k1 : Below w.heap.size w w1 := grow_step b1 (below_alloc _ _)
 have r1 : Boxed w1 w.heap.size 4 (.bool false) := boxed_later (heap_alloc_new w _) b1
 clear b1
 gi_wp2
 refine ⟨trivial, (callsIn_wide.2 (words_any s _)).mono ?_⟩
 rintro e w2 ⟨rfl, rfl⟩
 have k2 : Below w.heap.size w (w1.alloc (.cells #[.string s] 9)) := grow_alloc k1 _
 have r2 := boxed_later r1 (below_alloc w1 (.cells #[.string s] 9))
 generalize w1.alloc (.cells #[.string s] 9) = w2 at *
 clear k1 r1
 have hnil := fn_eql_nil
 gi_wp2
 refine ⟨trivial, (callsIn_wide.2 (refparts_any s w2 (by omega))).mono ?_⟩
 rintro e w3 ⟨zs, v, x, p, hx, rfl, zrow, zmg, b3⟩
 obtain ⟨va, vc, rfl⟩ := own_slice2 zrow
 have k3 : Below w.heap.size w w3 := grow_step b3 k2
 have r3 := boxed_later r2 b3
 have zm : ∀ x ∈ zs, ∃ w0, Mg w0 w3 x := fun x hx => ⟨_, zmg x hx⟩
 clear b3 zmg hnil k2 r2
 generalize w2.heap.size = bz at *
 unfold misV
 have hzl := lxs_len2 hx
 rw [List.length_map] at hzl
 by_cases hlong : 4096 < s.size
 ·have hlb : (4096 : Int) < s.size := by omega
  have hz0 : zs = [] := by
   unfold Lxs at hx
   rw [if_pos hlong] at hx
   simpa using hx.1
  subst hz0
  clear zrow
  gi_wp2
  have k4 : Below w.heap.size w ((w3.alloc (.cells #[.slice none 0 0] 22)).alloc (.cells #[.int .i64 x, .int .i64 p] 25)) := grow_alloc (grow_alloc k3 _) _
  have r4 := (r3.alloc (.cells #[.slice none 0 0] 22)).alloc (.cells #[.int .i64 x, .int .i64 p] 25)
  have x4 := (Boxed.new w3 22 (.slice none 0 0)).alloc (.cells #[.int .i64 x, .int .i64 p] 25)
  have zrow4 : ((w3.alloc (.cells #[.slice none 0 0] 22)).alloc (.cells #[.int .i64 x, .int .i64 p] 25)).ownsRow bz 46 5 (.slice none 0 0) ([] : List TM).length (([] : List TM).flatMap V5) := World.ownsRow_nil _ _ _ _
  have zm4 : ∀ x' ∈ ([] : List TM), ∃ w0, Mg w0 ((w3.alloc (.cells #[.slice none 0 0] 22)).alloc (.cells #[.int .i64 x, .int .i64 p] 25)) x' := fun x' h => (by cases h)
  generalize (w3.alloc (.cells #[.slice none 0 0] 22)).alloc (.cells #[.int .i64 x, .int .i64 p] 25) = w4 at *
  generalize w3.heap.size = b5 at *
  clear k3 r3 zm
  have hwr : (2 : Int) = (([] : List TM).length : Int) + 2 := rfl
  obtain ⟨va2, vc2, hv0⟩ : ∃ va2 vc2, Value.slice none 0 0 = Value.slice va2 ([] : List TM).length vc2 := ⟨none, 0, rfl⟩
  rw [hwr]
  rw [hv0] at x4 zrow4
  clear hwr hv0
  generalize ([] : List TM) = zs at *
  refine ⟨trivial, (callsIn_wide.2 (pick_n m ((zs.length : Int) + 2) hm0 hm1 (by omega) (by omega) w4)).mono ?_⟩
  rintro e w' ⟨n, hn, rfl, rfl⟩
  have c5 := x4.cell
  by_cases hnl : n < zs.length
  ·obtain ⟨g, cap, ev, hncap, hlcap, hcap, frow⟩ := own_take zrow4 hnl
   simp only [Value.slice.injEq] at ev
   obtain ⟨rfl, -, rfl⟩ := ev
   have hnb : (n : Int) < zs.length := by omega
   gi_wp2
   refine wpIn_mono (lw_reg10 hs (by omega) (hS.below k4) hx x4 zrow4 zm4 frow (fun x hx => zm4 x (List.mem_of_mem_take hx)) (hide (List.map_take ..)) hzl (by rw [List.length_take]; omega)) ?_
   rintro e a' W' ⟨rfl, ⟨v42, v43, v44, v45, v46, v47, v48, v49, v50, v51, v52, v53, rfl⟩, hbW⟩
   have kA := grow_step hbW k4
   have rA := boxed_later r4 hbW
   have xA := boxed_later x4 hbW
   have zrowA := owns_later zrow4 hbW
   have zmA : ∀ x ∈ zs, ∃ w0, Mg w0 W' x := fun x hx => (zm4 x hx).imp fun _ k => k.later hbW
   have hSA := hS.below kA
   clear x4 zrow4 zm4 k4 r4 c5 hbW
   gi_wp2
   refine ⟨trivial, (callsIn_wide.2 (words_any s _)).mono ?_⟩
   rintro e w' ⟨rfl, rfl⟩
   have bT := below_alloc W' (.cells #[.string s] 9)
   have tT := heap_alloc_new W' (.cells #[.string s] 9)
   have sT : (W'.alloc (.cells #[.string s] 9)).heap.size = W'.heap.size + 1 := by simp
   generalize W'.alloc (.cells #[.string s] 9) = Wt at *
   replace sT := hide sT
   gi_wp2
   rw [sT.out]
   refine range_enter rfl (enters_of Tryd.func24 (by kernel_rfl) rfl) (fun fn r hr => ?_)
   have h0 := jo_new (s := s) r bT tT sT.out
   have hszA : ((Wt.alloc (.cells #[.func (.func 24) #[] #[.pointer (some ⟨W'.heap.size, 0, none⟩)]] 36)).alloc (.cells #[.int .i64 0] 3)).heap.size = W'.heap.size + 3 := by simp [sT.out]
   have hszW : ((((Wt.alloc (.cells #[.func (.func 24) #[] #[.pointer (some ⟨W'.heap.size, 0, none⟩)]] 36)).alloc (.cells #[.int .i64 0] 3)).alloc (.deferred (some []))).alloc (.loop r)).heap.size = W'.heap.size + 5 := by simp [sT.out]
   rw [hszA]
   generalize (((Wt.alloc (.cells #[.func (.func 24) #[] #[.pointer (some ⟨W'.heap.size, 0, none⟩)]] 36)).alloc (.cells #[.int .i64 0] 3)).alloc (.deferred (some []))).alloc (.loop r) = WW at *
   clear hszA bT tT sT
   refine (words1_any s W'.heap.size (W'.heap.size + 3 + 1) _ WW (fun xs W => JO W' s r xs W) (fun xs W => JO W' s { r with state := .done, pending := some (.exit 0) } xs W) (fun xs W h => hSA.below h.below) (fun xs W W' h hb => h.later hb) (fun xs W b o o' hb _ _ h => h.put (by omega) o') (fun xs W b o o' hb _ _ h => h.put (by omega) o') ?_ (cell_of_row _ _ 0 _ _ (0, 0) h0.txt) (by omega) h0).mono ?_
   ·intro m' pre x V0 V1 hj hl hb' hM' hp'
    rw [hszW]
    exact lw_outer hr hSA xA zrowA zmA hx hj hl hb' hM' hp'
   ·rintro e W6 ⟨hret, ⟨xs, x', p', _, hj⟩ | ⟨pre, _, h4, _⟩⟩
    ·refine ⟨hret, .inl ⟨hj.lp, ?_⟩⟩
     have j2 := hj.recd { r with state := .exhausted }
     rw [show W'.heap.size + 3 + 1 = W'.heap.size + 4 from rfl]
     generalize W6.putObj (W'.heap.size + 4) (.loop { r with state := .exhausted }) = Wf at *
     have rF := boxed_later rA j2.below
     have c0 := rF.cell
     have f0 := rF.frozen
     have hdf := j2.dfr
     gi_wp2
     have ho := Only.set w.heap.size 0 Wf (.bool true)
     have hlt := rA.lt
     have hdf2 := (ho.block (W'.heap.size + 3) (by omega)).trans hdf
     have cF := (Boxed.cell ((World.putObj_heap_other (o := .deferred none) (r := W'.heap.size + 3) (show w.heap.size ≠ W'.heap.size + 3 by omega)).trans (rF.set (.bool true))))
     refine ⟨by simp, .inl ⟨_, _, rfl, run_takeDeferred hdf2, ?_⟩⟩
     refine ⟨.bool true, ?_, rfl, below_put_from ((kA.trans (j2.below.mono kA.size)).trans (ho.below (Nat.le_refl _))) (by omega) _⟩
     simp only [results]
     go_simp
    ·exfalso; omega
  ·have hnb : ¬ (n : Int) < zs.length := by omega
   gi_wp2
   refine wpIn_mono (lw_reg10 hs (by omega) (hS.below k4) hx x4 zrow4 zm4 zrow4 zm4 (hide (List.take_of_length_le (by rw [List.length_map]; omega)).symm) hzl hzl) ?_
   rintro e a' W' ⟨rfl, ⟨v42, v43, v44, v45, v46, v47, v48, v49, v50, v51, v52, v53, rfl⟩, hbW⟩
   have kA := grow_step hbW k4
   have rA := boxed_later r4 hbW
   have xA := boxed_later x4 hbW
   have zrowA := owns_later zrow4 hbW
   have zmA : ∀ x ∈ zs, ∃ w0, Mg w0 W' x := fun x hx => (zm4 x hx).imp fun _ k => k.later hbW
   have hSA := hS.below kA
   clear x4 zrow4 zm4 k4 r4 c5 hbW
   gi_wp2
   refine ⟨trivial, (callsIn_wide.2 (words_any s _)).mono ?_⟩
   rintro e w' ⟨rfl, rfl⟩
   have bT := below_alloc W' (.cells #[.string s] 9)
   have tT := heap_alloc_new W' (.cells #[.string s] 9)
   have sT : (W'.alloc (.cells #[.string s] 9)).heap.size = W'.heap.size + 1 := by simp
   generalize W'.alloc (.cells #[.string s] 9) = Wt at *
   replace sT := hide sT
   gi_wp2
   rw [sT.out]
   refine range_enter rfl (enters_of Tryd.func24 (by kernel_rfl) rfl) (fun fn r hr => ?_)
   have h0 := jo_new (s := s) r bT tT sT.out
   have hszA : ((Wt.alloc (.cells #[.func (.func 24) #[] #[.pointer (some ⟨W'.heap.size, 0, none⟩)]] 36)).alloc (.cells #[.int .i64 0] 3)).heap.size = W'.heap.size + 3 := by simp [sT.out]
   have hszW : ((((Wt.alloc (.cells #[.func (.func 24) #[] #[.pointer (some ⟨W'.heap.size, 0, none⟩)]] 36)).alloc (.cells #[.int .i64 0] 3)).alloc (.deferred (some []))).alloc (.loop r)).heap.size = W'.heap.size + 5 := by simp [sT.out]
   rw [hszA]
   generalize (((Wt.alloc (.cells #[.func (.func 24) #[] #[.pointer (some ⟨W'.heap.size, 0, none⟩)]] 36)).alloc (.cells #[.int .i64 0] 3)).alloc (.deferred (some []))).alloc (.loop r) = WW at *
   clear hszA bT tT sT
   refine (words1_any s W'.heap.size (W'.heap.size + 3 + 1) _ WW (fun xs W => JO W' s r xs W) (fun xs W => JO W' s { r with state := .done, pending := some (.exit 0) } xs W) (fun xs W h => hSA.below h.below) (fun xs W W' h hb => h.later hb) (fun xs W b o o' hb _ _ h => h.put (by omega) o') (fun xs W b o o' hb _ _ h => h.put (by omega) o') ?_ (cell_of_row _ _ 0 _ _ (0, 0) h0.txt) (by omega) h0).mono ?_
   ·intro m' pre x V0 V1 hj hl hb' hM' hp'
    rw [hszW]
    exact lw_outer hr hSA xA zrowA zmA hx hj hl hb' hM' hp'
   ·rintro e W6 ⟨hret, ⟨xs, x', p', _, hj⟩ | ⟨pre, _, h4, _⟩⟩
    ·refine ⟨hret, .inl ⟨hj.lp, ?_⟩⟩
     have j2 := hj.recd { r with state := .exhausted }
     rw [show W'.heap.size + 3 + 1 = W'.heap.size + 4 from rfl]
     generalize W6.putObj (W'.heap.size + 4) (.loop { r with state := .exhausted }) = Wf at *
     have rF := boxed_later rA j2.below
     have c0 := rF.cell
     have f0 := rF.frozen
     have hdf := j2.dfr
     gi_wp2
     have ho := Only.set w.heap.size 0 Wf (.bool true)
     have hlt := rA.lt
     have hdf2 := (ho.block (W'.heap.size + 3) (by omega)).trans hdf
     have cF := (Boxed.cell ((World.putObj_heap_other (o := .deferred none) (r := W'.heap.size + 3) (show w.heap.size ≠ W'.heap.size + 3 by omega)).trans (rF.set (.bool true))))
     refine ⟨by simp, .inl ⟨_, _, rfl, run_takeDeferred hdf2, ?_⟩⟩
     refine ⟨.bool true, ?_, rfl, below_put_from ((kA.trans (j2.below.mono kA.size)).trans (ho.below (Nat.le_refl _))) (by omega) _⟩
     simp only [results]
     go_simp
    ·exfalso; omega
 ·have hlb : ¬ (4096 : Int) < s.size := by omega
  have hwr : wrap64 ((zs.length : Int) + 2) = (zs.length : Int) + 2 := by unfold wrap64; omega
  gi_wp2
  have k4 : Below w.heap.size w ((w3.alloc (.cells #[.slice va zs.length vc] 22)).alloc (.cells #[.int .i64 x, .int .i64 p] 25)) := grow_alloc (grow_alloc k3 _) _
  have r4 := (r3.alloc (.cells #[.slice va zs.length vc] 22)).alloc (.cells #[.int .i64 x, .int .i64 p] 25)
  have x4 := (Boxed.new w3 22 (.slice va zs.length vc)).alloc (.cells #[.int .i64 x, .int .i64 p] 25)
  have ba : Below w3.heap.size w3 ((w3.alloc (.cells #[.slice va zs.length vc] 22)).alloc (.cells #[.int .i64 x, .int .i64 p] 25)) := grow_alloc (below_alloc _ _) _
  have zrow4 := owns_later zrow ba
  have zm4 : ∀ x' ∈ zs, ∃ w0, Mg w0 ((w3.alloc (.cells #[.slice va zs.length vc] 22)).alloc (.cells #[.int .i64 x, .int .i64 p] 25)) x' := fun x' h => (zm x' h).imp fun _ k => k.later ba
  generalize (w3.alloc (.cells #[.slice va zs.length vc] 22)).alloc (.cells #[.int .i64 x, .int .i64 p] 25) = w4 at *
  generalize w3.heap.size = b5 at *
  clear k3 r3 zm ba zrow
  try rw [hwr]
  clear hwr
  refine ⟨trivial, (callsIn_wide.2 (pick_n m ((zs.length : Int) + 2) hm0 hm1 (by omega) (by omega) w4)).mono ?_⟩
  rintro e w' ⟨n, hn, rfl, rfl⟩
  have c5 := x4.cell
  by_cases hnl : n < zs.length
  ·obtain ⟨g, cap, ev, hncap, hlcap, hcap, frow⟩ := own_take zrow4 hnl
   simp only [Value.slice.injEq] at ev
   obtain ⟨rfl, -, rfl⟩ := ev
   have hnb : (n : Int) < zs.length := by omega
   gi_wp2
   refine wpIn_mono (lw_reg10 hs (by omega) (hS.below k4) hx x4 zrow4 zm4 frow (fun x hx => zm4 x (List.mem_of_mem_take hx)) (hide (List.map_take ..)) hzl (by rw [List.length_take]; omega)) ?_
   rintro e a' W' ⟨rfl, ⟨v42, v43, v44, v45, v46, v47, v48, v49, v50, v51, v52, v53, rfl⟩, hbW⟩
   have kA := grow_step hbW k4
   have rA := boxed_later r4 hbW
   have xA := boxed_later x4 hbW
   have zrowA := owns_later zrow4 hbW
   have zmA : ∀ x ∈ zs, ∃ w0, Mg w0 W' x := fun x hx => (zm4 x hx).imp fun _ k => k.later hbW
   have hSA := hS.below kA
   clear x4 zrow4 zm4 k4 r4 c5 hbW
   gi_wp2
   refine ⟨trivial, (callsIn_wide.2 (words_any s _)).mono ?_⟩
   rintro e w' ⟨rfl, rfl⟩
   have bT := below_alloc W' (.cells #[.string s] 9)
   have tT := heap_alloc_new W' (.cells #[.string s] 9)
   have sT : (W'.alloc (.cells #[.string s] 9)).heap.size = W'.heap.size + 1 := by simp
   generalize W'.alloc (.cells #[.string s] 9) = Wt at *
   replace sT := hide sT
   gi_wp2
   rw [sT.out]
   refine range_enter rfl (enters_of Tryd.func24 (by kernel_rfl) rfl) (fun fn r hr => ?_)
   have h0 := jo_new (s := s) r bT tT sT.out
   have hszA : ((Wt.alloc (.cells #[.func (.func 24) #[] #[.pointer (some ⟨W'.heap.size, 0, none⟩)]] 36)).alloc (.cells #[.int .i64 0] 3)).heap.size = W'.heap.size + 3 := by simp [sT.out]
   have hszW : ((((Wt.alloc (.cells #[.func (.func 24) #[] #[.pointer (some ⟨W'.heap.size, 0, none⟩)]] 36)).alloc (.cells #[.int .i64 0] 3)).alloc (.deferred (some []))).alloc (.loop r)).heap.size = W'.heap.size + 5 := by simp [sT.out]
   rw [hszA]
   generalize (((Wt.alloc (.cells #[.func (.func 24) #[] #[.pointer (some ⟨W'.heap.size, 0, none⟩)]] 36)).alloc (.cells #[.int .i64 0] 3)).alloc (.deferred (some []))).alloc (.loop r) = WW at *
   clear hszA bT tT sT
   refine (words1_any s W'.heap.size (W'.heap.size + 3 + 1) _ WW (fun xs W => JO W' s r xs W) (fun xs W => JO W' s { r with state := .done, pending := some (.exit 0) } xs W) (fun xs W h => hSA.below h.below) (fun xs W W' h hb => h.later hb) (fun xs W b o o' hb _ _ h => h.put (by omega) o') (fun xs W b o o' hb _ _ h => h.put (by omega) o') ?_ (cell_of_row _ _ 0 _ _ (0, 0) h0.txt) (by omega) h0).mono ?_
   ·intro m' pre x V0 V1 hj hl hb' hM' hp'
    rw [hszW]
    exact lw_outer hr hSA xA zrowA zmA hx hj hl hb' hM' hp'
   ·rintro e W6 ⟨hret, ⟨xs, x', p', _, hj⟩ | ⟨pre, hj, h4, _⟩⟩
    ·refine ⟨hret, .inl ⟨hj.lp, ?_⟩⟩
     have j2 := hj.recd { r with state := .exhausted }
     rw [show W'.heap.size + 3 + 1 = W'.heap.size + 4 from rfl]
     generalize W6.putObj (W'.heap.size + 4) (.loop { r with state := .exhausted }) = Wf at *
     have rF := boxed_later rA j2.below
     have c0 := rF.cell
     have f0 := rF.frozen
     have hdf := j2.dfr
     gi_wp2
     have ho := Only.set w.heap.size 0 Wf (.bool true)
     have hlt := rA.lt
     have hdf2 := (ho.block (W'.heap.size + 3) (by omega)).trans hdf
     have cF := (Boxed.cell ((World.putObj_heap_other (o := .deferred none) (r := W'.heap.size + 3) (show w.heap.size ≠ W'.heap.size + 3 by omega)).trans (rF.set (.bool true))))
     refine ⟨by simp, .inl ⟨_, _, rfl, run_takeDeferred hdf2, ?_⟩⟩
     refine ⟨.bool true, ?_, rfl, below_put_from ((kA.trans (j2.below.mono kA.size)).trans (ho.below (Nat.le_refl _))) (by omega) _⟩
     simp only [results]
     go_simp
    ·refine ⟨hret, .inr ⟨.exit 0, hj.lp, ?_⟩⟩
     have j2 := hj.recd { r with state := .exhausted, pending := some (.exit 0) }
     rw [show W'.heap.size + 3 + 1 = W'.heap.size + 4 from rfl]
     generalize W6.putObj (W'.heap.size + 4) (.loop { r with state := .exhausted, pending := some (.exit 0) }) = Wf at *
     have rF := boxed_later rA j2.below
     have c0 := rF.cell
     have f0 := rF.frozen
     have hdf := j2.dfr
     gi_wp2
     have ho := Only.set w.heap.size 0 Wf (.bool true)
     have hlt := rA.lt
     have hdf2 := (ho.block (W'.heap.size + 3) (by omega)).trans hdf
     have cF := (Boxed.cell ((World.putObj_heap_other (o := .deferred none) (r := W'.heap.size + 3) (show w.heap.size ≠ W'.heap.size + 3 by omega)).trans (rF.set (.bool true))))
     refine ⟨by simp, .inl ⟨_, _, rfl, run_takeDeferred hdf2, ?_⟩⟩
     refine ⟨.bool true, ?_, rfl, below_put_from ((kA.trans (j2.below.mono kA.size)).trans (ho.below (Nat.le_refl _))) (by omega) _⟩
     simp only [results]
     go_simp
  ·have hnb : ¬ (n : Int) < zs.length := by omega
   gi_wp2
   refine wpIn_mono (lw_reg10 hs (by omega) (hS.below k4) hx x4 zrow4 zm4 zrow4 zm4 (hide (List.take_of_length_le (by rw [List.length_map]; omega)).symm) hzl hzl) ?_
   rintro e a' W' ⟨rfl, ⟨v42, v43, v44, v45, v46, v47, v48, v49, v50, v51, v52, v53, rfl⟩, hbW⟩
   have kA := grow_step hbW k4
   have rA := boxed_later r4 hbW
   have xA := boxed_later x4 hbW
   have zrowA := owns_later zrow4 hbW
   have zmA : ∀ x ∈ zs, ∃ w0, Mg w0 W' x := fun x hx => (zm4 x hx).imp fun _ k => k.later hbW
   have hSA := hS.below kA
   clear x4 zrow4 zm4 k4 r4 c5 hbW
   gi_wp2
   refine ⟨trivial, (callsIn_wide.2 (words_any s _)).mono ?_⟩
   rintro e w' ⟨rfl, rfl⟩
   have bT := below_alloc W' (.cells #[.string s] 9)
   have tT := heap_alloc_new W' (.cells #[.string s] 9)
   have sT : (W'.alloc (.cells #[.string s] 9)).heap.size = W'.heap.size + 1 := by simp
   generalize W'.alloc (.cells #[.string s] 9) = Wt at *
   replace sT := hide sT
   gi_wp2
   rw [sT.out]
   refine range_enter rfl (enters_of Tryd.func24 (by kernel_rfl) rfl) (fun fn r hr => ?_)
   have h0 := jo_new (s := s) r bT tT sT.out
   have hszA : ((Wt.alloc (.cells #[.func (.func 24) #[] #[.pointer (some ⟨W'.heap.size, 0, none⟩)]] 36)).alloc (.cells #[.int .i64 0] 3)).heap.size = W'.heap.size + 3 := by simp [sT.out]
   have hszW : ((((Wt.alloc (.cells #[.func (.func 24) #[] #[.pointer (some ⟨W'.heap.size, 0, none⟩)]] 36)).alloc (.cells #[.int .i64 0] 3)).alloc (.deferred (some []))).alloc (.loop r)).heap.size = W'.heap.size + 5 := by simp [sT.out]
   rw [hszA]
   generalize (((Wt.alloc (.cells #[.func (.func 24) #[] #[.pointer (some ⟨W'.heap.size, 0, none⟩)]] 36)).alloc (.cells #[.int .i64 0] 3)).alloc (.deferred (some []))).alloc (.loop r) = WW at *
   clear hszA bT tT sT
   refine (words1_any s W'.heap.size (W'.heap.size + 3 + 1) _ WW (fun xs W => JO W' s r xs W) (fun xs W => JO W' s { r with state := .done, pending := some (.exit 0) } xs W) (fun xs W h => hSA.below h.below) (fun xs W W' h hb => h.later hb) (fun xs W b o o' hb _ _ h => h.put (by omega) o') (fun xs W b o o' hb _ _ h => h.put (by omega) o') ?_ (cell_of_row _ _ 0 _ _ (0, 0) h0.txt) (by omega) h0).mono ?_
   ·intro m' pre x V0 V1 hj hl hb' hM' hp'
    rw [hszW]
    exact lw_outer hr hSA xA zrowA zmA hx hj hl hb' hM' hp'
   ·rintro e W6 ⟨hret, ⟨xs, x', p', _, hj⟩ | ⟨pre, hj, h4, _⟩⟩
    ·refine ⟨hret, .inl ⟨hj.lp, ?_⟩⟩
     have j2 := hj.recd { r with state := .exhausted }
     rw [show W'.heap.size + 3 + 1 = W'.heap.size + 4 from rfl]
     generalize W6.putObj (W'.heap.size + 4) (.loop { r with state := .exhausted }) = Wf at *
     have rF := boxed_later rA j2.below
     have c0 := rF.cell
     have f0 := rF.frozen
     have hdf := j2.dfr
     gi_wp2
     have ho := Only.set w.heap.size 0 Wf (.bool true)
     have hlt := rA.lt
     have hdf2 := (ho.block (W'.heap.size + 3) (by omega)).trans hdf
     have cF := (Boxed.cell ((World.putObj_heap_other (o := .deferred none) (r := W'.heap.size + 3) (show w.heap.size ≠ W'.heap.size + 3 by omega)).trans (rF.set (.bool true))))
     refine ⟨by simp, .inl ⟨_, _, rfl, run_takeDeferred hdf2, ?_⟩⟩
     refine ⟨.bool true, ?_, rfl, below_put_from ((kA.trans (j2.below.mono kA.size)).trans (ho.below (Nat.le_refl _))) (by omega) _⟩
     simp only [results]
     go_simp
    ·refine ⟨hret, .inr ⟨.exit 0, hj.lp, ?_⟩⟩
     have j2 := hj.recd { r with state := .exhausted, pending := some (.exit 0) }
     rw [show W'.heap.size + 3 + 1 = W'.heap.size + 4 from rfl]
     generalize W6.putObj (W'.heap.size + 4) (.loop { r with state := .exhausted, pending := some (.exit 0) }) = Wf at *
     have rF := boxed_later rA j2.below
     have c0 := rF.cell
     have f0 := rF.frozen
     have hdf := j2.dfr
     gi_wp2
     have ho := Only.set w.heap.size 0 Wf (.bool true)
     have hlt := rA.lt
     have hdf2 := (ho.block (W'.heap.size + 3) (by omega)).trans hdf
     have cF := (Boxed.cell ((World.putObj_heap_other (o := .deferred none) (r := W'.heap.size + 3) (show w.heap.size ≠ W'.heap.size + 3 by omega)).trans (rF.set (.bool true))))
     refine ⟨by simp, .inl ⟨_, _, rfl, run_takeDeferred hdf2, ?_⟩⟩
     refine ⟨.bool true, ?_, rfl, below_put_from ((kA.trans (j2.below.mono kA.size)).trans (ho.below (Nat.le_refl _))) (by omega) _⟩
     simp only [results]
     go_simp
end Go.Proofs.YtcgdhbgjmapoeaaDoor
