/-
 Several texts in one: XR, XS, XT.
-/
import Derived.Test.YtcgdhbgjmapoeaaDoorP09
namespace Go.Proofs.YtcgdhbgjmapoeaaDoor
open Go.RowKit Go.Shelf
attribute [local go_sem] Oper.semAt_some

/-- from block B on a round touches rows of words alone -/
def KW (B : Nat) (W W' : World) : Prop := ∀ (b : Nat) (o : Obj), B ≤ b → W.heap[b]? = some o → (∀ cs fr, o ≠ .cells cs 44 fr) → W'.heap[b]? = some o

/-- what Words' own loop has in memory -/
structure WdF (w : World) (s : ByteArray) (l : Nat) (W : World) : Prop where
 yld : W.heap[w.heap.size]? = some (.cells #[.func (.yield l) #[] #[]] 56 (0, 0))
 txt : W.heap[w.heap.size + 1]? = some (.cells #[.string s] 9 (0, 0))
 dfr : W.heap[w.heap.size + 2]? = some (.deferred (some []))
theorem WdF.later {w : World} {s : ByteArray} {l : Nat} {W W' : World} (h : WdF w s l W) (hb : Below W.heap.size W W') : WdF w s l W' := ⟨block_later h.yld hb, block_later h.txt hb, block_later h.dfr hb⟩
theorem WdF.kw {w : World} {s : ByteArray} {l : Nat} {W W' : World} (h : WdF w s l W) (hk : KW w.heap.size W W') : WdF w s l W' :=
 ⟨hk _ _ (Nat.le_refl _) h.yld (fun cs fr e => absurd (Obj.cells.inj e).2.1 (by decide)), hk _ _ (by omega) h.txt (fun cs fr e => absurd (Obj.cells.inj e).2.1 (by decide)), hk _ _ (by omega) h.dfr (fun cs fr e => by cases e)⟩
theorem WdF.put {w : World} {s : ByteArray} {l : Nat} {W : World} (h : WdF w s l W) (o' : Obj) : WdF w s l (W.putObj (w.heap.size + 3) o') :=
 ⟨(World.putObj_heap_other (by omega)).trans h.yld, (World.putObj_heap_other (by omega)).trans h.txt, (World.putObj_heap_other (by omega)).trans h.dfr⟩

theorem below_put {W W' : World} {b : Nat} (h : Below W.heap.size W W') (hb : b < W.heap.size) (o : Obj) : Below (W.putObj b o).heap.size (W.putObj b o) (W'.putObj b o) := by
 have hs : (W.putObj b o).heap.size = W.heap.size := by simp [World.putObj]
 refine ⟨h.os, h.tape, h.output, by simpa [World.putObj] using h.size, fun k hk => ?_⟩
 rw [hs] at hk
 by_cases e : k = b
 ·subst e
  rw [World.putObj_heap_same hb, World.putObj_heap_same (Nat.lt_of_lt_of_le hb h.size)]
 ·rw [World.putObj_heap_other e, World.putObj_heap_other e]
  exact h.block k hk
theorem mg_put {W0 Wa : World} {x : TM} {b : Nat} {r : Loop} {o : Obj} (h : Mg W0 Wa x) (hl : Wa.heap[b]? = some (.loop r)) (hB : Below (W0.putObj b o).heap.size (W0.putObj b o) (Wa.putObj b o)) : Mg (W0.putObj b o) (Wa.putObj b o) x := by
 obtain ⟨⟨_, h2⟩, h3⟩ := h
 refine ⟨⟨hB, ?_⟩, h3⟩
 have hs : (W0.putObj b o).heap.size = W0.heap.size := by simp [World.putObj]
 rcases h2 with h2 | ⟨c, ys, e1, e2, e3, e4⟩
 ·exact .inl h2
 ·refine .inr ⟨c, ys, e1, by rw [hs]; exact e2, ?_, e4⟩
  have e3' : Wa.heap[c]? = some (.cells (U ys) 55 (0, 0)) := e3
  exact (World.putObj_heap_other (fun e => by subst e; rw [hl] at e3'; cases e3')).trans e3
theorem wdf_new (w : World) (s : ByteArray) (l : Nat) (r : Loop) : WdF w s l ((((w.alloc (.cells #[.func (.yield l) #[] #[]] 56)).alloc (.cells #[.string s] 9)).alloc (.deferred (some []))).alloc (.loop r)) ∧ ((((w.alloc (.cells #[.func (.yield l) #[] #[]] 56)).alloc (.cells #[.string s] 9)).alloc (.deferred (some []))).alloc (.loop r)).heap[w.heap.size + 3]? = some (.loop r) := by
 have n1 := heap_alloc_new w (.cells #[.func (.yield l) #[] #[]] 56)
 have s1 : (w.alloc (.cells #[.func (.yield l) #[] #[]] 56)).heap.size = w.heap.size + 1 := by simp
 generalize w.alloc (.cells #[.func (.yield l) #[] #[]] 56) = w1 at *
 have b2 := below_alloc w1 (.cells #[.string s] 9)
 have n2 := heap_alloc_new w1 (.cells #[.string s] 9)
 have s2 : (w1.alloc (.cells #[.string s] 9)).heap.size = w.heap.size + 2 := by simp [s1]
 rw [s1] at n2
 generalize w1.alloc (.cells #[.string s] 9) = w2 at *
 have b3 := below_alloc w2 (.deferred (some []))
 have n3 := heap_alloc_new w2 (.deferred (some []))
 have s3 : (w2.alloc (.deferred (some []))).heap.size = w.heap.size + 3 := by simp [s2]
 rw [s2] at n3
 generalize w2.alloc (.deferred (some [])) = w3 at *
 have b4 := below_alloc w3 (.loop r)
 have n4 := heap_alloc_new w3 (.loop r)
 rw [s3] at n4
 generalize w3.alloc (.loop r) = w4 at *
 exact ⟨⟨block_later n1 (grow_step b4 (grow_step b3 b2)), block_later n2 (grow_step b4 b3), block_later n3 b4⟩, n4⟩

set_option maxRecDepth 100000 in
set_option maxHeartbeats 6400000 in
theorem words1_any (s : ByteArray) (B l n : Nat) (w : World) (J Jx : List TM → World → Prop)
  (hJ0 : ∀ xs W, J xs W → Sgn W) (hSt : ∀ xs W W', J xs W → Below W.heap.size W W' → J xs W')
  (hPut : ∀ xs W b o o', w.heap.size ≤ b → W.heap[b]? = some o → o.isCells = false → J xs W → J xs (W.putObj b o'))
  (hPutx : ∀ xs W b o o', w.heap.size ≤ b → W.heap[b]? = some o → o.isCells = false → Jx xs W → Jx xs (W.putObj b o'))
  (hY : ∀ m pre x W0 W1, J pre W0 → pre.length < s.size → Below W0.heap.size W0 W1 → Mg W0 W1 x → s.size ≤ 4096 ∧ Pfx s ((pre ++ [x]).map TM.d) → YieldAt Fence.wide m Tryd.prog l #[tokV x] W1 fun e W' => KW w.heap.size W1 W' ∧
   ((e = .returned (.bool true) ∧ J (pre ++ [x]) W' ∧ ∀ b, W0.heap.size ≤ b → b < W1.heap.size → W'.heap[b]? = W1.heap[b]?) ∨ (e = .returned (.bool false) ∧ Jx (pre ++ [x]) W')))
  (hB : w.cell? ⟨B, 0, none⟩ = some (.string s)) (hs : s.size ≤ 1099511627776) (h0 : J [] w) :
  CallsIn Fence.wide n Tryd.prog 24 #[.func (.yield l) #[] #[], .pointer (some ⟨B, 0, none⟩)] w fun e W' => (∃ v, e = .returned v) ∧
   ((∃ xs x p, Lxs s (xs.map TM.d) x p ∧ J xs W') ∨ (∃ pre, Jx pre W' ∧ s.size ≤ 4096 ∧ Pfx s (pre.map TM.d))) := by
 have hBl := World.block_lt_of_cell? w ⟨B, 0, none⟩ hB
 refine callsIn_of_wp_marks Tryd.func24 rfl trivial ?_ rfl
 simp only [Tryd.ntmps24, List.size_toArray, List.length_cons, List.length_nil, Nat.reduceAdd, Nat.reduceSub, Array.replicate_succ, Array.replicate_zero, List.push_toArray, List.append_toArray, List.nil_append, List.cons_append]
 gi_wp2
 refine ⟨trivial, fun h => absurd h (by decide), (callsIn_wide.2 (scan_any s _)).mono ?_⟩
 rintro e w' ⟨rfl, rfl⟩
 gi_wp2
 refine range_enter rfl (enters_of Tryd.func33 (by kernel_rfl) rfl) (fun fn r hr => ?_)
 have hF : WdF w s l ((((w.alloc (.cells #[.func (.yield l) #[] #[]] 56)).alloc (.cells #[.string s] 9)).alloc (.deferred (some []))).alloc (.loop r)) ∧ ((((w.alloc (.cells #[.func (.yield l) #[] #[]] 56)).alloc (.cells #[.string s] 9)).alloc (.deferred (some []))).alloc (.loop r)).heap[w.heap.size + 3]? = some (.loop r) := wdf_new w s l r
 have hJ1 : J [] ((((w.alloc (.cells #[.func (.yield l) #[] #[]] 56)).alloc (.cells #[.string s] 9)).alloc (.deferred (some []))).alloc (.loop r)) := hSt _ _ _ h0 (below_alloc' (below_alloc' (below_alloc' (below_alloc _ _) _) _) _)
 have hsz : ((w.alloc (.cells #[.func (.yield l) #[] #[]] 56)).alloc (.cells #[.string s] 9)).heap.size = w.heap.size + 2 := by simp
 rw [hsz]
 generalize (((w.alloc (.cells #[.func (.yield l) #[] #[]] 56)).alloc (.cells #[.string s] 9)).alloc (.deferred (some []))).alloc (.loop r) = WW at *
 clear hsz hB hBl h0
 have herr : ∀ (m : Nat) (pre : List TM) (x : Int) (p : Nat) (W : World), (J pre W ∧ WdF w s l W ∧ W.heap[w.heap.size + 3]? = some (.loop r)) → x ≠ 0 → YieldAt Fence.wide m Tryd.prog (w.heap.size + 2 + 1) #[tok0, misV x (p : Nat)] W fun e W' => (∃ b, e = .returned (.bool b)) ∧ (J pre W' ∧ WdF w s l W' ∧ W'.heap[w.heap.size + 3]? = some (.loop { r with state := .done, pending := some .ret })) := by
  rintro m pre x p W ⟨hj, h, hl⟩ hx
  have hxb : (x == 0) = false := by rw [beq_eq_false_iff_ne]; exact hx
  refine round_at hr hl rfl ?_
  simp only [tok0, misV]
  gi_wp2
  have ba : Below W.heap.size W ((W.alloc (.cells #[.int .i64 0, .string ⟨#[]⟩, .bool false, .slice none 0 0, .int .i64 0] 44)).alloc (.cells #[.int .i64 x, .int .i64 p] 25)) := below_alloc' (below_alloc _ _) _
  have z : ((W.alloc (.cells #[.int .i64 0, .string ⟨#[]⟩, .bool false, .slice none 0 0, .int .i64 0] 44)).alloc (.cells #[.int .i64 x, .int .i64 p] 25)).heap[W.heap.size + 1]? = some (.cells #[.int .i64 x, .int .i64 p] 25 (0, 0)) := by
   have := heap_alloc_new (W.alloc (.cells #[.int .i64 0, .string ⟨#[]⟩, .bool false, .slice none 0 0, .int .i64 0] 44)) (.cells #[.int .i64 x, .int .i64 p] 25)
   simpa using this
  generalize (W.alloc (.cells #[.int .i64 0, .string ⟨#[]⟩, .bool false, .slice none 0 0, .int .i64 0] 44)).alloc (.cells #[.int .i64 x, .int .i64 p] 25) = Wa at *
  have hl2 := block_later hl ba
  have hj2 := hSt _ _ _ hj ba
  have h2 := h.later ba
  refine ⟨hl2, ?_⟩
  have h3 := h2.put (.loop { r with state := .busy })
  have hj3 := hPut _ _ _ _ (.loop { r with state := .busy }) (by omega) hl2 rfl hj2
  have z3 : (Wa.putObj (w.heap.size + 2 + 1) (.loop { r with state := .busy })).heap[W.heap.size + 1]? = some (.cells #[.int .i64 x, .int .i64 p] 25 (0, 0)) := (World.putObj_heap_other (fun e => by rw [e, hl2] at z; cases z)).trans z
  have hlc : (Wa.putObj (w.heap.size + 2 + 1) (.loop { r with state := .busy })).heap[w.heap.size + 2 + 1]? = some (.loop { r with state := .busy }) := World.putObj_heap_same (Array.getElem?_eq_some_iff.1 hl2).1
  generalize Wa.putObj (w.heap.size + 2 + 1) (.loop { r with state := .busy }) = Wc at *
  have zc : Wc.cell? ⟨W.heap.size + 1, 0, none⟩ = some (.int .i64 x) := cell_of_row Wc _ 0 _ _ (0, 0) z3
  clear hl2 hj2 h2 ba z z3
  gi_wp2
  refine ⟨fun _ h => (by cases h), ?_⟩
  gi_wp2
  exact ⟨hlc, .inl rfl, hPut _ _ _ _ _ (by omega) hlc rfl hj3, h3.put _, World.putObj_heap_same (Array.getElem?_eq_some_iff.1 hlc).1⟩
 obtain ⟨hF0, hL0⟩ := hF
 by_cases hlong : 4096 < s.size
 ·refine (scan1_long s (w.heap.size + 1) (w.heap.size + 2 + 1) _ WW (fun W => J [] W ∧ WdF w s l W ∧ W.heap[w.heap.size + 3]? = some (.loop r)) (fun W => J [] W ∧ WdF w s l W ∧ W.heap[w.heap.size + 3]? = some (.loop { r with state := .done, pending := some .ret })) ?_ (cell_of_row WW _ 0 _ _ (0, 0) hF0.txt) hlong hs ⟨hJ1, hF0, hL0⟩).mono ?_
  ·exact fun W hJ => herr _ [] 40 0 W hJ (by decide)
  ·rintro e W' ⟨hret, hj, hf, hl⟩
   refine ⟨hret, .inr ⟨.ret, hl, ?_⟩⟩
   gi_wp2
   have hdf := (hf.put (.loop { r with state := .exhausted, pending := some .ret })).dfr
   have hl2 : w.heap.size ≤ w.heap.size + 2 + 1 := by omega
   have hj2 := hPut _ _ _ _ (.deferred none) (by omega) hdf rfl (hPut _ _ _ _ (.loop { r with state := .exhausted, pending := some .ret }) hl2 hl rfl hj)
   refine ⟨by simp, .inl ⟨_, _, rfl, run_takeDeferred hdf, ?_⟩⟩
   exact ⟨_, results_none rfl _ _ _, ⟨_, rfl⟩, .inl ⟨[], ⟨40, 0, by unfold Lxs; rw [if_pos hlong]; exact ⟨rfl, rfl, rfl⟩⟩, hj2⟩⟩
 ·have HLs : ∀ ts x p, Lx s 0 ts x p → Lxs s ts x p := fun ts x p h => by unfold Lxs; rw [if_neg hlong]; exact h
  refine (scan1_short s (w.heap.size + 1) (w.heap.size + 2 + 1) _ WW (fun xs W => J xs W ∧ WdF w s l W ∧ W.heap[w.heap.size + 3]? = some (.loop r)) (fun xs W => Jx xs W ∧ WdF w s l W ∧ W.heap[w.heap.size + 3]? = some (.loop { r with state := .done, pending := some .ret })) (fun xs _ _ W => J xs W ∧ WdF w s l W ∧ W.heap[w.heap.size + 3]? = some (.loop { r with state := .done, pending := some .ret })) ?_ ?_ ?_ ?_ (by omega) ⟨hJ1, hF0, hL0⟩).mono ?_
  ·rintro xs W ⟨hj, hf, -⟩
   exact ⟨cell_of_row W _ 0 _ _ (0, 0) hf.txt, hJ0 _ _ hj⟩
  ·rintro xs W W' ⟨hj, hf, hl⟩ hb
   exact ⟨hSt _ _ _ hj hb, hf.later hb, block_later hl hb⟩
  ·rintro pre x W0 W1 ⟨hj, hf, hl⟩ hlen hb hM hpx
   have hl1 := block_later hl hb
   refine round_at hr hl1 rfl ?_
   simp only [tokV, misV]
   gi_wp2
   have ba : Below W1.heap.size W1 ((W1.alloc (.cells #[.int .i64 x.d.kind, .string x.d.text, .bool false, .slice x.ad x.len x.cap, .int .i64 x.d.at'] 44)).alloc (.cells #[.int .i64 0, .int .i64 0] 25)) := below_alloc' (below_alloc _ _) _
   have y : TB ((W1.alloc (.cells #[.int .i64 x.d.kind, .string x.d.text, .bool false, .slice x.ad x.len x.cap, .int .i64 x.d.at'] 44)).alloc (.cells #[.int .i64 0, .int .i64 0] 25)) W1.heap.size (.int .i64 x.d.kind) (.string x.d.text) (.bool false) (.slice x.ad x.len x.cap) (.int .i64 x.d.at') := (tb_new W1 _ _ _ _ _).below (below_alloc _ _)
   have z : ((W1.alloc (.cells #[.int .i64 x.d.kind, .string x.d.text, .bool false, .slice x.ad x.len x.cap, .int .i64 x.d.at'] 44)).alloc (.cells #[.int .i64 0, .int .i64 0] 25)).heap[W1.heap.size + 1]? = some (.cells #[.int .i64 0, .int .i64 0] 25 (0, 0)) := by
    have := heap_alloc_new (W1.alloc (.cells #[.int .i64 x.d.kind, .string x.d.text, .bool false, .slice x.ad x.len x.cap, .int .i64 x.d.at'] 44)) (.cells #[.int .i64 0, .int .i64 0] 25)
    simpa using this
   generalize (W1.alloc (.cells #[.int .i64 x.d.kind, .string x.d.text, .bool false, .slice x.ad x.len x.cap, .int .i64 x.d.at'] 44)).alloc (.cells #[.int .i64 0, .int .i64 0] 25) = Wa at *
   have hl2 := block_later hl1 ba
   refine ⟨hl2, ?_⟩
   have bW := grow_step ba hb
   have hlW := (Array.getElem?_eq_some_iff.1 hl).1
   have hjp := hPut _ _ _ _ (.loop { r with state := .busy }) (show w.heap.size ≤ w.heap.size + 3 by omega) hl rfl hj
   have bP := below_put bW hlW (.loop { r with state := .busy })
   have hMp := mg_put (hM.later ba) hl2 bP
   have hfc := ((hf.later bW).put (.loop { r with state := .busy }))
   have y3 : TB (Wa.putObj (w.heap.size + 3) (.loop { r with state := .busy })) W1.heap.size (.int .i64 x.d.kind) (.string x.d.text) (.bool false) (.slice x.ad x.len x.cap) (.int .i64 x.d.at') := (World.putObj_heap_other (fun e => by rw [e] at y; exact absurd (y.symm.trans hl2) (by simp))).trans y
   have z3 : (Wa.putObj (w.heap.size + 3) (.loop { r with state := .busy })).heap[W1.heap.size + 1]? = some (.cells #[.int .i64 0, .int .i64 0] 25 (0, 0)) := (World.putObj_heap_other (fun e => by rw [e, hl2] at z; cases z)).trans z
   have hlc : (Wa.putObj (w.heap.size + 3) (.loop { r with state := .busy })).heap[w.heap.size + 3]? = some (.loop { r with state := .busy }) := World.putObj_heap_same (Array.getElem?_eq_some_iff.1 hl2).1
   have hsP : (W0.putObj (w.heap.size + 3) (.loop { r with state := .busy })).heap.size = W0.heap.size := by simp [World.putObj]
   have hsC : W1.heap.size ≤ (Wa.putObj (w.heap.size + 3) (.loop { r with state := .busy })).heap.size := by simpa [World.putObj] using ba.size
   have hmid : ∀ b, W0.heap.size ≤ b → b < W1.heap.size → (Wa.putObj (w.heap.size + 3) (.loop { r with state := .busy })).heap[b]? = W1.heap[b]? := by
    intro b hb1 hb2
    rw [World.putObj_heap_other (by omega)]
    exact ba.block b hb2
   obtain ⟨fn', tm', as', bo', hy, hR⟩ := hY (n - 1 - 1 - 1) pre x _ _ hjp hlen bP hMp ⟨by omega, hpx⟩
   unfold tokV at hy
   rw [show w.heap.size + 2 + 1 = w.heap.size + 3 from rfl]
   generalize Wa.putObj (w.heap.size + 3) (.loop { r with state := .busy }) = Wc at *
   have zc : Wc.cell? ⟨W1.heap.size + 1, 0, none⟩ = some (.int .i64 0) := cell_of_row Wc _ 0 _ _ (0, 0) z3
   have yc : Wc.cell? ⟨w.heap.size, 0, none⟩ = some (.func (.yield l) #[] #[]) := cell_of_row Wc _ 0 _ _ (0, 0) hfc.yld
   have y0 := y3.c0
   have y1 := y3.c1
   have y2 := y3.c2
   have y4 := y3.c3
   have y5 := y3.c4
   clear hl2 y z z3 y3 bW hMp hjp bP
   gi_wp2
   refine ⟨fun h => absurd h (by decide), RoundIn.mono (show RoundIn (Fence.wide.inRound (w.heap.size + 3)) (n - 1 - 1 - 1) Tryd.prog l fn' tm' as' bo' Wc _ from hR) ?_⟩
   rintro e W3 ⟨hkw, ⟨rfl, hJ3, hk3⟩ | ⟨rfl, hJx3⟩⟩
   ·have hl3 := hkw _ _ (show w.heap.size ≤ w.heap.size + 3 by omega) hlc (fun cs fr e => by cases e)
    have hf3 := hfc.kw hkw
    clear hR hy zc yc y0 y1 y2 y4 y5
    gi_wp2
    refine ⟨hl3, .inl ⟨rfl, ⟨hPut _ _ _ _ _ (show w.heap.size ≤ w.heap.size + 3 by omega) hl3 rfl hJ3, hf3.put _, ?_⟩, ?_⟩⟩
    ·rw [World.putObj_heap_same (Array.getElem?_eq_some_iff.1 hl3).1, lrec_again hr]
    ·intro b hb1 hb2
     rw [World.putObj_heap_other (by omega), hk3 b (by rw [hsP]; exact hb1) (by omega)]
     exact hmid b hb1 hb2
   ·have hl3 := hkw _ _ (show w.heap.size ≤ w.heap.size + 3 by omega) hlc (fun cs fr e => by cases e)
    have hf3 := hfc.kw hkw
    clear hR hy zc yc y0 y1 y2 y4 y5
    gi_wp2
    exact ⟨hl3, .inr ⟨rfl, hPutx _ _ _ _ _ (show w.heap.size ≤ w.heap.size + 3 by omega) hl3 rfl hJx3, hf3.put _, World.putObj_heap_same (Array.getElem?_eq_some_iff.1 hl3).1⟩⟩
  ·exact fun pre x p W hJ hx => herr _ pre x p W hJ hx
  ·rintro e W' ⟨hret, ⟨xs, hx, hj, hf, hl⟩ | ⟨xs, x, p, hx, hj, hf, hl⟩ | ⟨pre, ⟨hj, hf, hl⟩, ha⟩⟩
   ·refine ⟨hret, .inl ⟨hl, ?_⟩⟩
    gi_wp2
    have hdf := (hf.put (.loop { r with state := .exhausted })).dfr
    have hl2 : w.heap.size ≤ w.heap.size + 2 + 1 := by omega
    have hj2 := hPut _ _ _ _ (.deferred none) (by omega) hdf rfl (hPut _ _ _ _ (.loop { r with state := .exhausted }) hl2 hl rfl hj)
    refine ⟨by simp, .inl ⟨_, _, rfl, run_takeDeferred hdf, ?_⟩⟩
    exact ⟨_, results_none rfl _ _ _, ⟨_, rfl⟩, .inl ⟨xs, ⟨_, _, HLs _ _ _ hx⟩, hj2⟩⟩
   ·refine ⟨hret, .inr ⟨.ret, hl, ?_⟩⟩
    gi_wp2
    have hdf := (hf.put (.loop { r with state := .exhausted, pending := some .ret })).dfr
    have hl2 : w.heap.size ≤ w.heap.size + 2 + 1 := by omega
    have hj2 := hPut _ _ _ _ (.deferred none) (by omega) hdf rfl (hPut _ _ _ _ (.loop { r with state := .exhausted, pending := some .ret }) hl2 hl rfl hj)
    refine ⟨by simp, .inl ⟨_, _, rfl, run_takeDeferred hdf, ?_⟩⟩
    exact ⟨_, results_none rfl _ _ _, ⟨_, rfl⟩, .inl ⟨xs, ⟨_, _, HLs _ _ _ hx⟩, hj2⟩⟩
   ·refine ⟨hret, .inr ⟨.ret, hl, ?_⟩⟩
    gi_wp2
    have hdf := (hf.put (.loop { r with state := .exhausted, pending := some .ret })).dfr
    have hl2 : w.heap.size ≤ w.heap.size + 2 + 1 := by omega
    have hj2 := hPutx _ _ _ _ (.deferred none) (by omega) hdf rfl (hPutx _ _ _ _ (.loop { r with state := .exhausted, pending := some .ret }) hl2 hl rfl hj)
    refine ⟨by simp, .inl ⟨_, _, rfl, run_takeDeferred hdf, ?_⟩⟩
    exact ⟨_, results_none rfl _ _ _, ⟨_, rfl⟩, .inr ⟨pre, hj2, by omega, ha⟩⟩
end Go.Proofs.YtcgdhbgjmapoeaaDoor

namespace Go.Proofs.YtcgdhbgjmapoeaaDoor
open Go.RowKit Go.Shelf
attribute [local go_sem] Oper.semAt_some

structure OvF (w : World) (n : Int) (v : Value) (xs : List TM) (W : World) : Prop where
 below : Below w.heap.size w W
 nbx : Boxed W w.heap.size 3 (.int .i64 n)
 box : Boxed W (w.heap.size + 1) 28 v
 dfr : W.heap[w.heap.size + 3]? = some (.deferred (some []))
 row : W.ownsRow w.heap.size 44 5 v xs.length (xs.flatMap V5)
 mag : ∀ x ∈ xs, Mg w W x
theorem OvF.later {w : World} {n : Int} {v : Value} {xs : List TM} {W W' : World} (h : OvF w n v xs W) (hb : Below W.heap.size W W') : OvF w n v xs W' :=
 ⟨grow_step hb h.below, boxed_later h.nbx hb, boxed_later h.box hb, block_later h.dfr hb, owns_later h.row hb, fun x hx => (h.mag x hx).later hb⟩
theorem OvF.put {w : World} {n : Int} {v : Value} {xs : List TM} {W : World} {b : Nat} {o : Obj} (h : OvF w n v xs W) (hb : w.heap.size + 4 ≤ b) (hl : W.heap[b]? = some o) (ho : o.isCells = false) (o' : Obj) : OvF w n v xs (W.putObj b o') := by
 have hk : ∀ e, KT e W (W.putObj b o') := by
  intro e k cs hc
  rw [World.putObj_heap_other (fun e => by subst e; rw [hl] at hc; rw [Option.some.inj hc] at ho; cases ho)]
  exact hc
 have hB := h.below.trans ((Below.refl w.heap.size W).grown (grownBy_putObj' W b o') h.below.size (fun k e => by cases e; omega))
 exact ⟨hB, hk _ _ _ h.nbx, hk _ _ _ h.box, (World.putObj_heap_other (by omega)).trans h.dfr, own_kt h.row (hk _), fun x hx => mg_kt (h.mag x hx) hB (hk _)⟩
theorem OvF.append {w : World} {n : Int} {v v' : Value} {xs : List TM} {W w1 : World} {x : TM} {tmp : Obj} (h : OvF w n v xs W) (hx : Mg w W x)
  (hown' : w1.ownsRow w.heap.size 44 5 v' (xs.length + 1) (xs.flatMap V5 ++ V5 x)) (hgrow : (W.alloc tmp).grownBy w1 v.ownBlock) :
  OvF w n v' (xs ++ [x]) (w1.setCell ⟨w.heap.size + 1, 0, none⟩ v') := by
 obtain ⟨hv1, hv2, hr2, hk2, hb2⟩ := h.box.appended (by decide) h.row h.below.size (by omega) hown' hgrow
 have hB := h.below.trans hb2
 have hk : ∀ b o, W.heap[b]? = some o → b ≠ w.heap.size + 1 → (∀ cs fr, o ≠ .cells cs 44 fr) → (w1.setCell ⟨w.heap.size + 1, 0, none⟩ v').heap[b]? = some o := by
  intro b o hb hne ht
  rw [append_other hgrow (Array.getElem?_eq_some_iff.1 hb).1 (own_ne h.row hb ht) hne]
  exact hb
 have hku : KT 55 W (w1.setCell ⟨w.heap.size + 1, 0, none⟩ v') := by
  intro b cs hb
  refine hk b _ hb (fun e => ?_) (fun cs fr e => absurd (Obj.cells.inj e).2.1 (by decide))
  have hbx : W.heap[w.heap.size + 1]? = some (.cells #[v] 28 (0, 0)) := h.box
  rw [← e, hb] at hbx
  exact absurd (Obj.cells.inj (Option.some.inj hbx)).2.1 (by decide)
 refine ⟨hB, hk _ _ h.nbx (by omega) (fun cs fr e => absurd (Obj.cells.inj e).2.1 (by decide)), hv2, hk _ _ h.dfr (by omega) (fun cs fr e => by cases e), ?_, ?_⟩
 ·rw [List.length_append, List.flatMap_append]
  simpa using hr2
 ·intro y hy
  rcases List.mem_append.1 hy with hy | hy
  ·exact mg_kt (h.mag y hy) hB hku
  ·rw [List.mem_singleton] at hy
   rw [hy]; exact mg_kt hx hB hku
theorem ovf_kw {w : World} {n : Int} {v v' : Value} {xs : List TM} {W w1 : World} {tmp : Obj} (h : OvF w n v xs W) (hgrow : (W.alloc tmp).grownBy w1 v.ownBlock) : KW (w.heap.size + 2) W (w1.setCell ⟨w.heap.size + 1, 0, none⟩ v') := by
 intro b o hB hb ht
 rw [append_other hgrow (Array.getElem?_eq_some_iff.1 hb).1 (own_ne h.row hb ht) (by omega)]
 exact hb
theorem KW.trans {B : Nat} {W1 W2 W3 : World} (h : KW B W1 W2) (k : KW B W2 W3) : KW B W1 W3 := fun b o hB hb ht => k b o hB (h b o hB hb ht) ht
theorem KW.mono {B B' : Nat} {W1 W2 : World} (h : KW B W1 W2) (hB : B ≤ B') : KW B' W1 W2 := fun b o hb => h b o (by omega)
theorem kw_below {B : Nat} {W1 W2 : World} (h : Below W1.heap.size W1 W2) : KW B W1 W2 := fun _ _ _ hb _ => block_later hb h
theorem kw_put {B b : Nat} {W : World} (hb : b < B) (o : Obj) : KW B W (W.putObj b o) := fun k o' hk hb' _ => (World.putObj_heap_other (by omega)).trans hb'
end Go.Proofs.YtcgdhbgjmapoeaaDoor

namespace Go.Proofs.YtcgdhbgjmapoeaaDoor
open Go.RowKit Go.Shelf
attribute [local go_sem] Oper.semAt_some

theorem ovf_new (w : World) (s : ByteArray) (n : Int) (r : Loop) : OvF w n (.slice none 0 0) [] (((((w.alloc (.cells #[.int .i64 n] 3)).alloc (.cells #[.slice none 0 0] 28)).alloc (.cells #[.string s] 9)).alloc (.deferred (some []))).alloc (.loop r)) ∧ (((((w.alloc (.cells #[.int .i64 n] 3)).alloc (.cells #[.slice none 0 0] 28)).alloc (.cells #[.string s] 9)).alloc (.deferred (some []))).alloc (.loop r)).cell? ⟨w.heap.size + 1 + 1, 0, none⟩ = some (.string s) ∧ (((((w.alloc (.cells #[.int .i64 n] 3)).alloc (.cells #[.slice none 0 0] 28)).alloc (.cells #[.string s] 9)).alloc (.deferred (some []))).alloc (.loop r)).heap[w.heap.size + 4]? = some (.loop r) := by
 have b1 := below_alloc w (.cells #[.int .i64 n] 3)
 have n1 := heap_alloc_new w (.cells #[.int .i64 n] 3)
 have s1 : (w.alloc (.cells #[.int .i64 n] 3)).heap.size = w.heap.size + 1 := by simp
 generalize w.alloc (.cells #[.int .i64 n] 3) = w1 at *
 have b2 := below_alloc w1 (.cells #[.slice none 0 0] 28)
 have n2 := heap_alloc_new w1 (.cells #[.slice none 0 0] 28)
 have s2 : (w1.alloc (.cells #[.slice none 0 0] 28)).heap.size = w.heap.size + 1 + 1 := by simp [s1]
 rw [s1] at n2
 generalize w1.alloc (.cells #[.slice none 0 0] 28) = w2 at *
 have b3 := below_alloc w2 (.cells #[.string s] 9)
 have n3 := heap_alloc_new w2 (.cells #[.string s] 9)
 have s3 : (w2.alloc (.cells #[.string s] 9)).heap.size = w.heap.size + 3 := by simp [s2]
 rw [s2] at n3
 generalize w2.alloc (.cells #[.string s] 9) = w3 at *
 have b4 := below_alloc w3 (.deferred (some []))
 have n4 := heap_alloc_new w3 (.deferred (some []))
 have s4 : (w3.alloc (.deferred (some []))).heap.size = w.heap.size + 4 := by simp [s3]
 rw [s3] at n4
 generalize w3.alloc (.deferred (some [])) = w4 at *
 have b5 := below_alloc w4 (.loop r)
 have n5 := heap_alloc_new w4 (.loop r)
 rw [s4] at n5
 generalize w4.alloc (.loop r) = w5 at *
 have b45 := grow_step b5 b4
 have b35 := grow_step b45 b3
 have b25 := grow_step b35 b2
 have b15 := grow_step b25 b1
 exact ⟨⟨b15, block_later n1 b25, block_later n2 b35, block_later n4 b5, World.ownsRow_nil _ _ _ _, fun x hx => (by cases hx)⟩, cell_of_row w5 _ 0 _ _ (0, 0) (block_later n3 b45), n5⟩

set_option maxRecDepth 100000 in
set_option maxHeartbeats 6400000 in
theorem over_any (s : ByteArray) (n : Int) (w : World) (hs : s.size ≤ 1099511627776) (_hn0 : -9223372036854775808 ≤ n) (_hn1 : n ≤ 9223372036854775807) (hn : n ≠ 0) (hS : Sgn w) :
  Calls Tryd.prog 16 #[.string s, .int .i64 n] w fun e w' => ∃ (xs : List TM) (v : Value), e = .returned v ∧ w'.ownsRow w.heap.size 44 5 v xs.length (xs.flatMap V5) ∧ (∀ x ∈ xs, Mg w w' x) ∧ Below w.heap.size w w' ∧
   (((∀ k : Nat, k ≤ xs.length → (k : Int) ≠ n) ∧ ∃ x p, Lxs s (xs.map TM.d) x p) ∨ ((xs.length : Int) = n ∧ s.size ≤ 4096 ∧ Pfx s (xs.map TM.d))) := by
 have hnb : (n == 0) = false := by rw [beq_eq_false_iff_ne]; exact hn
 refine (callsIn_wide (n := 5)).1 ?_
 refine callsIn_of_wp_marks Tryd.func16 rfl trivial ?_ rfl
 simp only [Tryd.ntmps16, List.size_toArray, List.length_cons, List.length_nil, Nat.reduceAdd, Nat.reduceSub, Array.replicate_succ, Array.replicate_zero, List.push_toArray, List.append_toArray, List.nil_append, List.cons_append]
 gi_wp2
 refine ⟨trivial, (callsIn_wide.2 (words_any s _)).mono ?_⟩
 rintro e w' ⟨rfl, rfl⟩
 gi_wp2
 refine range_enter rfl (enters_of Tryd.func24 (by kernel_rfl) rfl) (fun fn r hr => ?_)
 have hF := ovf_new w s n r
 have hsz : (((w.alloc (.cells #[.int .i64 n] 3)).alloc (.cells #[.slice none 0 0] 28)).alloc (.cells #[.string s] 9)).heap.size = w.heap.size + 3 := by simp
 have hszW : (((((w.alloc (.cells #[.int .i64 n] 3)).alloc (.cells #[.slice none 0 0] 28)).alloc (.cells #[.string s] 9)).alloc (.deferred (some []))).alloc (.loop r)).heap.size = w.heap.size + 5 := by simp
 rw [hsz]
 generalize ((((w.alloc (.cells #[.int .i64 n] 3)).alloc (.cells #[.slice none 0 0] 28)).alloc (.cells #[.string s] 9)).alloc (.deferred (some []))).alloc (.loop r) = WW at *
 clear hsz
 obtain ⟨hF0, hT0, hL0⟩ := hF
 refine (words1_any s (w.heap.size + 1 + 1) (w.heap.size + 3 + 1) _ WW (fun xs W => (∃ v, OvF w n v xs W) ∧ Hid (∀ k : Nat, k ≤ xs.length → (k : Int) ≠ n) ∧ W.heap[w.heap.size + 4]? = some (.loop r))
  (fun xs W => (∃ v, OvF w n v xs W) ∧ Hid ((xs.length : Int) = n) ∧ W.heap[w.heap.size + 4]? = some (.loop { r with state := .done, pending := some (.exit 0) })) ?_ ?_ ?_ ?_ ?_ hT0 hs ⟨⟨_, hF0⟩, fun k hk e => hn (by have : k = 0 := Nat.le_zero.1 hk; rw [← e, this]; rfl), hL0⟩).mono ?_
 ·rintro xs W ⟨⟨v, h⟩, -⟩
  exact hS.below h.below
 ·rintro xs W W' ⟨⟨v, h⟩, hne, hl⟩ hb
  exact ⟨⟨v, h.later hb⟩, hne, block_later hl hb⟩
 ·rintro xs W b o o' hb ho hc ⟨⟨v, h⟩, hne, hl⟩
  exact ⟨⟨v, h.put (by omega) ho hc o'⟩, hne, (World.putObj_heap_other (by omega)).trans hl⟩
 ·rintro xs W b o o' hb ho hc ⟨⟨v, h⟩, hne, hl⟩
  exact ⟨⟨v, h.put (by omega) ho hc o'⟩, hne, (World.putObj_heap_other (by omega)).trans hl⟩
 ·rintro m pre x W0 W1 ⟨⟨v, h⟩, hne, hl⟩ hlen hb hM -
  have h1 := h.later hb
  have hl1 := block_later hl hb
  refine round_at hr hl1 rfl ?_
  simp only [tokV]
  gi_wp2
  have ba : Below W1.heap.size W1 (W1.alloc (.cells #[.int .i64 x.d.kind, .string x.d.text, .bool false, .slice x.ad x.len x.cap, .int .i64 x.d.at'] 44)) := below_alloc _ _
  have y : TB (W1.alloc (.cells #[.int .i64 x.d.kind, .string x.d.text, .bool false, .slice x.ad x.len x.cap, .int .i64 x.d.at'] 44)) W1.heap.size (.int .i64 x.d.kind) (.string x.d.text) (.bool false) (.slice x.ad x.len x.cap) (.int .i64 x.d.at') := tb_new W1 _ _ _ _ _
  generalize (W1.alloc (.cells #[.int .i64 x.d.kind, .string x.d.text, .bool false, .slice x.ad x.len x.cap, .int .i64 x.d.at'] 44)) = Wa at *
  have h2 := h1.later ba
  have hl2 := block_later hl1 ba
  refine ⟨hl2, ?_⟩
  have hM2 : Mg w Wa x := Mg.later ⟨hM.1.outer h.below, hM.2⟩ ba
  have h3 := h2.put (by omega) hl2 rfl (.loop { r with state := .busy })
  have hkP : KT 55 Wa (Wa.putObj (w.heap.size + 4) (.loop { r with state := .busy })) := fun k cs hc => (World.putObj_heap_other (fun e => by subst e; rw [hl2] at hc; cases hc)).trans hc
  have hM3 := mg_kt hM2 h3.below hkP
  have y3 : TB (Wa.putObj (w.heap.size + 4) (.loop { r with state := .busy })) W1.heap.size (.int .i64 x.d.kind) (.string x.d.text) (.bool false) (.slice x.ad x.len x.cap) (.int .i64 x.d.at') := (World.putObj_heap_other (fun e => by rw [e] at y; exact absurd (y.symm.trans hl2) (by simp))).trans y
  have hlc : (Wa.putObj (w.heap.size + 4) (.loop { r with state := .busy })).heap[w.heap.size + 4]? = some (.loop { r with state := .busy }) := World.putObj_heap_same (Array.getElem?_eq_some_iff.1 hl2).1
  have kw1 : KW WW.heap.size W1 (Wa.putObj (w.heap.size + 4) (.loop { r with state := .busy })) := (kw_below ba).trans (kw_put (by omega) _)
  have hlW := (Array.getElem?_eq_some_iff.1 hl).1
  have hmid : ∀ b, W0.heap.size ≤ b → b < W1.heap.size → (Wa.putObj (w.heap.size + 4) (.loop { r with state := .busy })).heap[b]? = W1.heap[b]? := by
   intro b hb1 hb2
   rw [World.putObj_heap_other (by omega)]
   exact ba.block b hb2
  have hsz1 : W1.heap.size ≤ (Wa.putObj (w.heap.size + 4) (.loop { r with state := .busy })).heap.size := by simpa [World.putObj] using ba.size
  rw [show w.heap.size + 3 + 1 = w.heap.size + 4 from rfl]
  generalize Wa.putObj (w.heap.size + 4) (.loop { r with state := .busy }) = Wc at *
  have bc := h3.box.cell
  have bf := h3.box.frozen
  have nc := h3.nbx.cell
  have y0 := y3.c0
  have y1 := y3.c1
  have y2 := y3.c2
  have y4 := y3.c3
  have y5 := y3.c4
  clear h1 hl1 h2 hl2 ba hM2 y y3
  obtain ⟨i0, hi, hz0, hz1, hz2⟩ := info_parts infoTok
  have hne1 : ((pre.length : Int) + 1 == n) = true ∨ ((pre.length : Int) + 1 == n) = false := by cases ((pre.length : Int) + 1 == n) <;> simp
  rcases hne1 with hq | hq
  ·have HQ := hide hq
   gi_wp2_with (gi_at_builtin; refine wpListIn_append_own _ rfl _ _ 28 rfl w.heap.size 44 i0 _ 5 64 Tryd.underlying28 hi hz0 hz1 hz2 rfl (by decide) _ _ _ rfl (h3.row.alloc _) ⟨Wc.heap.size, 0, none⟩ 1 1 (V5 x) rfl rfl (v5_new _ _) (v5_one _) (by unfold maxLen; omega) (by omega) (by have := h3.below.size; simp; omega) ?_; intro v' w1 hown' hgrow _; obtain ⟨g', cap', rfl⟩ := ownsRow_succ hown'; obtain ⟨hv1, hv2, hr2, hk2, hb2⟩ := h3.box.appended (by decide) h3.row h3.below.size (by omega) hown' hgrow; have hc1 := hv1.cell; have hf1 := hv1.frozen; have hc2 := hv2.cell; have hT := h3.append hM3 hown' hgrow; have nc2 := hT.nbx.cell; have hkw := ovf_kw (v' := .slice (some ⟨g', 0, none⟩) (pre.length + 1) cap') h3 hgrow)
   have hlF := hk2.same _ _ hlc rfl
   have kwF := ((kw1.mono (show WW.heap.size ≤ w.heap.size + 5 by omega)).trans (hkw.mono (show w.heap.size + 2 ≤ w.heap.size + 5 by omega))).trans (kw_put (show w.heap.size + 4 < w.heap.size + 5 by omega) (.loop { r with state := .done, pending := some (.exit 0) }))
   exact ⟨hlF, kwF, .inr ⟨rfl, ⟨_, hT.put (by omega) hlF rfl _⟩, hide (by simpa using HQ.out), World.putObj_heap_same (Array.getElem?_eq_some_iff.1 hlF).1⟩⟩
  ·have HQ := hide hq
   gi_wp2_with (gi_at_builtin; refine wpListIn_append_own _ rfl _ _ 28 rfl w.heap.size 44 i0 _ 5 64 Tryd.underlying28 hi hz0 hz1 hz2 rfl (by decide) _ _ _ rfl (h3.row.alloc _) ⟨Wc.heap.size, 0, none⟩ 1 1 (V5 x) rfl rfl (v5_new _ _) (v5_one _) (by unfold maxLen; omega) (by omega) (by have := h3.below.size; simp; omega) ?_; intro v' w1 hown' hgrow _; obtain ⟨g', cap', rfl⟩ := ownsRow_succ hown'; obtain ⟨hv1, hv2, hr2, hk2, hb2⟩ := h3.box.appended (by decide) h3.row h3.below.size (by omega) hown' hgrow; have hc1 := hv1.cell; have hf1 := hv1.frozen; have hc2 := hv2.cell; have hT := h3.append hM3 hown' hgrow; have nc2 := hT.nbx.cell; have hkw := ovf_kw (v' := .slice (some ⟨g', 0, none⟩) (pre.length + 1) cap') h3 hgrow)
   have hlF := hk2.same _ _ hlc rfl
   have kwF := ((kw1.mono (show WW.heap.size ≤ w.heap.size + 5 by omega)).trans (hkw.mono (show w.heap.size + 2 ≤ w.heap.size + 5 by omega))).trans (kw_put (show w.heap.size + 4 < w.heap.size + 5 by omega) (.loop { r with state := .ready, pending := none }))
   have hne2 : ∀ k : Nat, k ≤ pre.length + 1 → ¬ (k : Int) = n := by
    intro k hk e
    by_cases hkp : k ≤ pre.length
    ·exact hne.out k hkp e
    ·have : k = pre.length + 1 := by omega
     rw [this] at e
     have h9 := HQ.out
     rw [beq_eq_false_iff_ne] at h9
     exact h9 (by rw [← e]; push_cast; rfl)
   refine ⟨hlF, kwF, .inl ⟨rfl, ⟨⟨_, hT.put (by omega) hlF rfl _⟩, hne2, ?_⟩, ?_⟩⟩
   ·rw [World.putObj_heap_same (Array.getElem?_eq_some_iff.1 hlF).1, lrec_again hr]
   ·intro b hb1 hb2
    have hbW := h.box.lt
    rw [World.putObj_heap_other (by omega), append_other hgrow (by omega) (fun e => by have := (h.row.lt _ e).2; omega) (by omega)]
    exact hmid b hb1 hb2
 ·rintro e W' ⟨hret, ⟨xs, x, p, hx, ⟨v, h⟩, hne, hl⟩ | ⟨xs, ⟨⟨v, h⟩, hln, hl⟩, ha⟩⟩
  ·refine ⟨hret, .inl ⟨hl, ?_⟩⟩
   obtain ⟨va, vn, vc, rfl⟩ := own_slice h.row
   have h2 := h.put (by omega) hl rfl (.loop { r with state := .exhausted })
   rw [show w.heap.size + 3 + 1 = w.heap.size + 4 from rfl]
   generalize W'.putObj (w.heap.size + 4) (.loop { r with state := .exhausted }) = Wf at *
   have c0 := h2.box.cell
   have hdf := h2.dfr
   have HX : Hid (∃ x p, Lxs s (xs.map TM.d) x p) := ⟨x, p, hx⟩
   clear hx hl
   gi_wp2
   refine ⟨by simp, .inl ⟨_, _, rfl, run_takeDeferred hdf, ?_⟩⟩
   have hB := h2.below.trans (belowK_b (w := w) (Nat.le_refl _) Wf (w.heap.size + 3) _ (.deferred none) (by omega) hdf rfl rfl)
   have hk : ∀ e, KT e Wf (Wf.putObj (w.heap.size + 3) (.deferred none)) := fun e k cs hc => (World.putObj_heap_other (fun e => by subst e; rw [hdf] at hc; cases hc)).trans hc
   exact ⟨_, results_tmp rfl _ _ _, xs, _, rfl, own_kt h2.row (hk _), fun x hx => mg_kt (h2.mag x hx) hB (hk _), hB, .inl ⟨hne.out, HX.out⟩⟩
  ·refine ⟨hret, .inr ⟨.exit 0, hl, ?_⟩⟩
   obtain ⟨va, vn, vc, rfl⟩ := own_slice h.row
   have h2 := h.put (by omega) hl rfl (.loop { r with state := .exhausted, pending := some (.exit 0) })
   rw [show w.heap.size + 3 + 1 = w.heap.size + 4 from rfl]
   generalize W'.putObj (w.heap.size + 4) (.loop { r with state := .exhausted, pending := some (.exit 0) }) = Wf at *
   have c0 := h2.box.cell
   have hdf := h2.dfr
   have HX := hide ha
   clear ha hl
   gi_wp2
   refine ⟨by simp, .inl ⟨_, _, rfl, run_takeDeferred hdf, ?_⟩⟩
   have hB := h2.below.trans (belowK_b (w := w) (Nat.le_refl _) Wf (w.heap.size + 3) _ (.deferred none) (by omega) hdf rfl rfl)
   have hk : ∀ e, KT e Wf (Wf.putObj (w.heap.size + 3) (.deferred none)) := fun e k cs hc => (World.putObj_heap_other (fun e => by subst e; rw [hdf] at hc; cases hc)).trans hc
   exact ⟨_, results_tmp rfl _ _ _, xs, _, rfl, own_kt h2.row (hk _), fun x hx => mg_kt (h2.mag x hx) hB (hk _), hB, .inr ⟨hln.out, HX.out⟩⟩
end Go.Proofs.YtcgdhbgjmapoeaaDoor
