/-
  Layer 3: the words that a range over them tells: what the loop holds.
-/
import Derived.Test.YtnikdfmdcoidmabDoorXR
namespace Go.Proofs.YtnikdfmdcoidmabDoor
open Go.RowKit Go.Shelf
attribute [local go_sem] Oper.semAt_some

structure OvF (w : World) (n : Int) (v : Value) (xs : List TM) (W : World) : Prop where
  below : Below w.heap.size w W
  nbx : Boxed W w.heap.size 3 (.int .i64 n)
  box : Boxed W (w.heap.size + 1) 23 v
  dfr : W.heap[w.heap.size + 3]? = some (.deferred (some []))
  row : W.ownsRow w.heap.size 35 5 v xs.length (xs.flatMap V5)
  mag : ∀ x ∈ xs, Mg w W x
theorem OvF.later {w : World} {n : Int} {v : Value} {xs : List TM} {W W' : World} (h : OvF w n v xs W) (hb : Below W.heap.size W W') : OvF w n v xs W' :=
  ⟨grow_step hb h.below, boxed_later h.nbx hb, boxed_later h.box hb, block_later h.dfr hb, owns_later h.row hb, fun x hx => (h.mag x hx).later hb⟩
theorem OvF.put {w : World} {n : Int} {v : Value} {xs : List TM} {W : World} {b : Nat} {o : Obj} (h : OvF w n v xs W) (hb : w.heap.size + 4 ≤ b) (hl : W.heap[b]? = some o) (ho : o.isCells = false) (o' : Obj) : OvF w n v xs (W.putObj b o') := by
  have hk : ∀ e, KT e W (W.putObj b o') := by
    intro e k cs hc
    rw [World.putObj_heap_other (fun e => by subst e; rw [hl] at hc; rw [Option.some.inj hc] at ho; cases ho)]
    exact hc
  have hB := h.below.trans ((Below.refl w.heap.size W).grown (grownBy_putObj' W b o') h.below.size (fun k e => by cases e; omega))
  exact ⟨hB, hk _ _ _ h.nbx, hk _ _ _ h.box, (World.putObj_heap_other (by omega)).trans h.dfr, own_kt h.row (hk _), fun x hx => mg_kt (h.mag x hx) hB (hk _)⟩
theorem OvF.append {w : World} {n : Int} {v v' : Value} {xs : List TM} {W w1 : World} {x : TM} {tmp : Obj} (h : OvF w n v xs W) (hx : Mg w W x)
    (hown' : w1.ownsRow w.heap.size 35 5 v' (xs.length + 1) (xs.flatMap V5 ++ V5 x)) (hgrow : (W.alloc tmp).grownBy w1 v.ownBlock) :
    OvF w n v' (xs ++ [x]) (w1.setCell ⟨w.heap.size + 1, 0, none⟩ v') := by
  obtain ⟨hv1, hv2, hr2, hk2, hb2⟩ := h.box.appended (by decide) h.row h.below.size (by omega) hown' hgrow
  have hB := h.below.trans hb2
  have hk : ∀ b o, W.heap[b]? = some o → b ≠ w.heap.size + 1 → (∀ cs fr, o ≠ .cells cs 35 fr) → (w1.setCell ⟨w.heap.size + 1, 0, none⟩ v').heap[b]? = some o := by
    intro b o hb hne ht
    rw [append_other hgrow (Array.getElem?_eq_some_iff.1 hb).1 (own_ne h.row hb ht) hne]
    exact hb
  have hku : KT 48 W (w1.setCell ⟨w.heap.size + 1, 0, none⟩ v') := by
    intro b cs hb
    refine hk b _ hb (fun e => ?_) (fun cs fr e => absurd (Obj.cells.inj e).2.1 (by decide))
    have hbx : W.heap[w.heap.size + 1]? = some (.cells #[v] 23 (0, 0)) := h.box
    rw [← e, hb] at hbx
    exact absurd (Obj.cells.inj (Option.some.inj hbx)).2.1 (by decide)
  refine ⟨hB, hk _ _ h.nbx (by omega) (fun cs fr e => absurd (Obj.cells.inj e).2.1 (by decide)), hv2, hk _ _ h.dfr (by omega) (fun cs fr e => by cases e), ?_, ?_⟩
  · rw [List.length_append, List.flatMap_append]
    simpa using hr2
  · intro y hy
    rcases List.mem_append.1 hy with hy | hy
    · exact mg_kt (h.mag y hy) hB hku
    · rw [List.mem_singleton] at hy
      rw [hy]; exact mg_kt hx hB hku
theorem ovf_kw {w : World} {n : Int} {v v' : Value} {xs : List TM} {W w1 : World} {tmp : Obj} (h : OvF w n v xs W) (hgrow : (W.alloc tmp).grownBy w1 v.ownBlock) : KW (w.heap.size + 2) W (w1.setCell ⟨w.heap.size + 1, 0, none⟩ v') := by
  intro b o hB hb ht
  rw [append_other hgrow (Array.getElem?_eq_some_iff.1 hb).1 (own_ne h.row hb ht) (by omega)]
  exact hb
theorem KW.trans {B : Nat} {W1 W2 W3 : World} (h : KW B W1 W2) (k : KW B W2 W3) : KW B W1 W3 := fun b o hB hb ht => k b o hB (h b o hB hb ht) ht
theorem KW.mono {B B' : Nat} {W1 W2 : World} (h : KW B W1 W2) (hB : B ≤ B') : KW B' W1 W2 := fun b o hb => h b o (by omega)
theorem kw_below {B : Nat} {W1 W2 : World} (h : Below W1.heap.size W1 W2) : KW B W1 W2 := fun _ _ _ hb _ => block_later hb h
theorem kw_put {B b : Nat} {W : World} (hb : b < B) (o : Obj) : KW B W (W.putObj b o) := fun k o' hk hb' _ => (World.putObj_heap_other (by omega)).trans hb'
end Go.Proofs.YtnikdfmdcoidmabDoor
