/-
  Layer 3: the reference's words.
-/
import Derived.Test.YtnikdfmdcoidmaaDoorXF
namespace Go.Proofs.YtnikdfmdcoidmaaDoor
open Go.RowKit Go.Shelf

theorem kt_grow {W w2 : World} {base : Nat} {e e' : TypeId} {size : Nat} {v : Value} {n : Nat} {xs : List Value} {tmp : Obj} (h : W.ownsRow base e size v n xs) (hg : (W.alloc tmp).grownBy w2 v.ownBlock) (hne : e' ≠ e) : KT e' W w2 := by
  intro b cs hb
  have hlt := (Array.getElem?_eq_some_iff.1 hb).1
  have hno := own_ne h hb (fun cs fr he => hne (Obj.cells.inj he).2.1)
  rw [hg.block b (by simp; omega) (fun e => hno e.symm), Below.heap_alloc W tmp b hlt]
  exact hb
theorem below_grow {W w2 : World} {base : Nat} {e : TypeId} {size : Nat} {v : Value} {n : Nat} {xs : List Value} {tmp : Obj} (h : W.ownsRow base e size v n xs) (hB : base ≤ W.heap.size) (hg : (W.alloc tmp).grownBy w2 v.ownBlock) : Below base W w2 :=
  ((Below.refl base W).alloc hB tmp).trans ((Below.refl base _).grown hg (by simp; omega) (fun k e => (h.lt k e).1))
theorem lx_blank {s : ByteArray} {k : Nat} {ts : List TD} {x : Int} {p : Nat} (hc : cls (bt s k) = 0) (h : Lx s (k + 1) ts x p) : Lx s k ts x p := by
  have key : ∀ m, BlankEnd s (k + 1) m → BlankEnd s k m := by
    intro m hm
    refine ⟨by have := hm.1; omega, hm.2.1, fun j h1 h2 => ?_, hm.2.2.2⟩
    by_cases e : j = k
    · rw [e]; exact hc
    · exact hm.2.2.1 j (by omega) h2
  cases h with
  | done h' => exact .done (key _ h')
  | bad h' hk hn => exact .bad (key _ h') hk hn
  | word h' hk hw hr => exact .word (key _ h') hk hw hr
theorem infoRTok : (Tryd.prog.info? 54).map (fun i => (i.zero, i.size, i.bytes)) = some (some (.agg #[.int .i64 0, .string ⟨#[]⟩, .bool false, .slice none 0 0, .int .i64 0]), 5, 64) := by kernel_rfl
theorem v5_newt (ty : TypeId) (W : World) (x : TM) : ∀ j u, (V5 x)[j]? = some u → (W.alloc (.cells (V5 x).toArray ty)).cell? ((⟨W.heap.size, 0, none⟩ : Addr).add j) = some u := by
  intro j u h
  rw [Addr.add_lit, cell_of_row _ _ (0 + j) _ _ (0, 0) (heap_alloc_new W _)]
  simpa using h
theorem results_tc {P : Program} {fn : Func} {t1 p2 : Tmp} {ty2 : TypeId} (h : fn.results = #[.tmp t1, .cell p2 ty2]) (tmps : Array Value) (w : World) (g2 : Nat) (t2 : TypeId) (cs2 : Array Value) (fr2 : Nat × Nat) (d2 : TypeDesc)
    (hp2 : tmps.getD p2 undef = .pointer (some ⟨g2, 0, none⟩)) (hg2 : w.heap[g2]? = some (.cells cs2 t2 fr2))
    (hu2 : P.underlying ty2 = some d2) (hd2 : (match d2 with | .struct _ | .array _ _ => true | _ => false) = true) (hi2 : (P.info? ty2).map (·.size) = some cs2.size) :
    (results fn tmps).run P w = .ok (.tuple #[tmps.getD t1 undef, .agg cs2]) w := by
  have hp2' : tmps[p2]?.getD undef = .pointer (some ⟨g2, 0, none⟩) := by simpa using hp2
  simp [results, h, hp2', asAddr, run_loadVar_row w g2 t2 ty2 cs2 fr2 d2 hg2 hu2 hd2 hi2]
theorem mis_set {W : World} {b : Nat} {t : TypeId} {p q : Value} (h : W.heap[b]? = some (.cells #[p, q] t (0, 0))) (x y : Value) : ((W.setCell ⟨b, 0, none⟩ x).setCell ⟨b, 1, none⟩ y).heap[b]? = some (.cells #[x, y] t (0, 0)) := by
  have y1 := heap_setCell_same _ _ 0 _ _ x h
  have y2 := heap_setCell_same _ _ 1 _ _ y y1
  simpa using y2
theorem kt_set {W : World} {b : Nat} {t e : TypeId} {cs : Array Value} (h : W.heap[b]? = some (.cells cs t (0, 0))) (hne : e ≠ t) (x y : Value) : KT e W ((W.setCell ⟨b, 0, none⟩ x).setCell ⟨b, 1, none⟩ y) := by
  intro k cs' hk
  have n1 : k ≠ b := by rintro rfl; rw [hk] at h; exact hne (Obj.cells.inj (Option.some.inj h)).2.1
  rw [Below.heap_setCell _ _ _ _ n1, Below.heap_setCell _ _ _ _ n1]
  exact hk

/-- what Parts holds -/
structure PtF (w : World) (v : Value) (xs : List TM) (W : World) : Prop where
  below : Below w.heap.size w W
  mis : W.heap[w.heap.size]? = some (.cells #[.int .i64 0, .int .i64 0] 35 (0, 0))
  row : W.ownsRow w.heap.size 54 5 v xs.length (xs.flatMap V5)
  mag : ∀ x ∈ xs, Mg w W x
theorem PtF.later {w : World} {v : Value} {xs : List TM} {W W' : World} (h : PtF w v xs W) (hb : Below W.heap.size W W') : PtF w v xs W' :=
  ⟨grow_step hb h.below, block_later h.mis hb, owns_later h.row hb, fun x hx => (h.mag x hx).later hb⟩
theorem PtF.append {w : World} {v v' : Value} {xs : List TM} {W w1 : World} {x : TM} {tmp : Obj} (h : PtF w v xs W) (hx : Mg w W x)
    (hown' : w1.ownsRow w.heap.size 54 5 v' (xs.length + 1) (xs.flatMap V5 ++ V5 x)) (hgrow : (W.alloc tmp).grownBy w1 v.ownBlock) : PtF w v' (xs ++ [x]) w1 := by
  have hB := h.below.trans (below_grow h.row h.below.size hgrow)
  refine ⟨hB, kt_grow h.row hgrow (by decide) _ _ h.mis, ?_, fun y hy => ?_⟩
  · rw [List.length_append, List.flatMap_append]
    simpa using hown'
  · refine mg_kt ?_ hB (kt_grow h.row hgrow (by decide))
    rcases List.mem_append.1 hy with hy | hy
    · exact h.mag y hy
    · rw [List.mem_singleton] at hy
      rw [hy]; exact hx
theorem PtF.over {w : World} {v : Value} {xs : List TM} {W : World} (h : PtF w v xs W) (x y : Value) :
    ((W.setCell ⟨w.heap.size, 0, none⟩ x).setCell ⟨w.heap.size, 1, none⟩ y).ownsRow w.heap.size 54 5 v xs.length (xs.flatMap V5) ∧ (∀ z ∈ xs, Mg w ((W.setCell ⟨w.heap.size, 0, none⟩ x).setCell ⟨w.heap.size, 1, none⟩ y) z) ∧ Below w.heap.size w ((W.setCell ⟨w.heap.size, 0, none⟩ x).setCell ⟨w.heap.size, 1, none⟩ y) := by
  have hB : Below w.heap.size w ((W.setCell ⟨w.heap.size, 0, none⟩ x).setCell ⟨w.heap.size, 1, none⟩ y) := (h.below.setCell (p := ⟨w.heap.size, 0, none⟩) (Nat.le_refl _) _).setCell (p := ⟨w.heap.size, 1, none⟩) (Nat.le_refl _) _
  exact ⟨own_kt h.row (kt_set h.mis (by decide) _ _), fun z hz => mg_kt (h.mag z hz) hB (kt_set h.mis (by decide) _ _), hB⟩
end Go.Proofs.YtnikdfmdcoidmaaDoor
