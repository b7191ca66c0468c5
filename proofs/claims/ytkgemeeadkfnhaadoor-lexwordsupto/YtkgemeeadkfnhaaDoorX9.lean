/-
  Layer 3: a text's words in a list: what the loop holds.
-/
import Derived.Test.YtkgemeeadkfnhaaDoorX8
import Derived.Test.YtkgemeeadkfnhaaDoorAZ
namespace Go.Proofs.YtkgemeeadkfnhaaDoor
open Go.RowKit Go.Shelf
attribute [local go_sem] Oper.semAt_some

/-- the cells of a word -/
def V5 (x : TM) : List Value := [.int .i64 x.d.kind, .string x.d.text, .bool false, .slice x.ad x.len x.cap, .int .i64 x.d.at']

set_option maxRecDepth 100000 in
set_option maxHeartbeats 1600000 in
theorem scan_any (s : ByteArray) (w : World) :
    Calls Tryd.prog 14 #[.string s] w fun e w' => e = .returned (.func (.func 22) #[] #[.pointer (some ⟨w.heap.size, 0, none⟩)]) ∧ w' = w.alloc (.cells #[.string s] 9) := by
  go_enter Tryd.func14, Tryd.ntmps14
  go_wp2
  go_ret
  exact ⟨rfl, rfl⟩

/-- the cells of no word -/
def tokZ : Array Value := #[.int .i64 0, .string ⟨#[]⟩, .bool false, .slice none 0 0, .int .i64 0]
theorem boxed_later {W W' : World} {B : Nat} {t : TypeId} {v : Value} (h : Boxed W B t v) (hb : Below W.heap.size W W') : Boxed W' B t v := (hb.block B h.lt).trans h
theorem block_later {W W' : World} {B : Nat} {o : Obj} (h : W.heap[B]? = some o) (hb : Below W.heap.size W W') : W'.heap[B]? = some o := (hb.block B (Array.getElem?_eq_some_iff.1 h).1).trans h
theorem owns_later {W W' : World} {base : Nat} {e : TypeId} {size : Nat} {v : Value} {n : Nat} {xs : List Value} (h : W.ownsRow base e size v n xs) (hb : Below W.heap.size W W') : W'.ownsRow base e size v n xs := by
  obtain ⟨h1, h2⟩ := h
  refine ⟨h1, ?_⟩
  rcases h2 with h2 | ⟨g, cap, cur, h3, h4, h5, h6⟩
  · exact .inl h2
  · exact .inr ⟨g, cap, cur, h3, h4, block_later h5 hb, h6⟩

/-- a block that is other than the row's and the box's stays where something is appended -/
theorem append_other {W w1 : World} {B b : Nat} {v v' : Value} {tmp : Obj} (hgrow : (W.alloc tmp).grownBy w1 v.ownBlock) (hb : b < W.heap.size) (h1 : v.ownBlock ≠ some b) (h2 : b ≠ B) :
    (w1.setCell ⟨B, 0, none⟩ v').heap[b]? = W.heap[b]? := by
  rw [Below.heap_setCell _ _ _ _ h2]
  have := hgrow.block b (by simp; omega) (fun e => h1 e.symm)
  rw [this]
  exact Below.heap_alloc W tmp b hb

/-- what Tokens holds in memory while it goes over the words -/
structure TkF (w : World) (s : ByteArray) (v : Value) (xs : List TM) (W : World) : Prop where
  below : Below w.heap.size w W
  res : Boxed W w.heap.size 34 (.slice none 0 0)
  mis : W.heap[w.heap.size + 1]? = some (.cells #[.int .i64 0, .int .i64 0] 29 (0, 0))
  box : Boxed W (w.heap.size + 1 + 1) 34 v
  txt : Boxed W (w.heap.size + 1 + 1 + 1) 9 (.string s)
  dfr : W.heap[w.heap.size + 4]? = some (.deferred (some []))
  row : W.ownsRow w.heap.size 40 5 v xs.length (xs.flatMap V5)
  mag : ∀ x ∈ xs, Mg w W x
  spz : SpZ W tokZ v
theorem TkF.later {w : World} {s : ByteArray} {v : Value} {xs : List TM} {W W' : World} (h : TkF w s v xs W) (hb : Below W.heap.size W W') : TkF w s v xs W' :=
  ⟨grow_step hb h.below, boxed_later h.res hb, block_later h.mis hb, boxed_later h.box hb, boxed_later h.txt hb, block_later h.dfr hb, owns_later h.row hb, fun x hx => (h.mag x hx).later hb, h.spz.below hb⟩
/-- what a step may touch: the row of words, the variable that holds it, the loop's own record -/
def Kx (B : Nat) (W W' : World) : Prop := ∀ b o, W.heap[b]? = some o → b ≠ B → (∀ cs fr, o ≠ .cells cs 40 fr) → (∀ r, o ≠ .loop r) → W'.heap[b]? = some o
theorem kx_put {W : World} {r : Loop} {l B : Nat} (hl : W.heap[l]? = some (.loop r)) (r' : Loop) : Kx B W (W.putObj l (.loop r')) := by
  intro b o hb _ _ ho
  rw [World.putObj_heap_other (fun e => by subst e; rw [hl] at hb; exact ho r (Option.some.inj hb).symm)]
  exact hb
theorem Mg.move {w W W' : World} {x : TM} {B : Nat} {v : Value} (h : Mg w W x) (hB : Below w.heap.size w W') (hbox : Boxed W B 34 v) (hk : Kx B W W') : Mg w W' x := by
  refine ⟨h.1.keep hB ?_, h.2⟩
  intro b hb
  obtain ⟨_, ⟨ha, _⟩ | ⟨b', ys, ha, _, hr, _⟩⟩ := h.1
  · rw [ha] at hb; cases hb
  · rw [ha] at hb
    obtain rfl : b' = b := Option.some.inj hb
    have hr' : W.heap[b']? = some (.cells (U ys) 64 (0, 0)) := hr
    refine (hk b' _ hr ?_ ?_ ?_).trans hr.symm
    · rintro rfl
      have hbx : W.heap[b']? = some (.cells #[v] 34 (0, 0)) := hbox
      rw [hr'] at hbx
      have e := (Obj.cells.inj (Option.some.inj hbx)).2.1
      exact absurd e (by decide)
    · intro cs fr e; cases e
    · intro r e; cases e
theorem TkF.move {w : World} {s : ByteArray} {v v' : Value} {xs ys : List TM} {W W' : World} (h : TkF w s v xs W) (hB : Below w.heap.size w W') (hk : Kx (w.heap.size + 1 + 1) W W')
    (hbox : Boxed W' (w.heap.size + 1 + 1) 34 v') (hrow : W'.ownsRow w.heap.size 40 5 v' ys.length (ys.flatMap V5)) (hmag : ∀ x ∈ ys, Mg w W x) (hspz : SpZ W' tokZ v') : TkF w s v' ys W' := by
  refine ⟨hB, ?_, ?_, hbox, ?_, ?_, hrow, fun x hx => (hmag x hx).move hB h.box hk, hspz⟩
  · exact hk _ _ h.res (by omega) (fun cs fr e => by cases e) (fun r e => by cases e)
  · exact hk _ _ h.mis (by omega) (fun cs fr e => by cases e) (fun r e => by cases e)
  · exact hk _ _ h.txt (by omega) (fun cs fr e => by cases e) (fun r e => by cases e)
  · exact hk _ _ h.dfr (by omega) (fun cs fr e => by cases e) (fun r e => by cases e)
theorem TkF.put {w : World} {s : ByteArray} {v : Value} {xs : List TM} {W : World} {r : Loop} {l : Nat} (h : TkF w s v xs W) (hl : W.heap[l]? = some (.loop r)) (hlb : w.heap.size ≤ l) (r' : Loop) : TkF w s v xs (W.putObj l (.loop r')) := by
  have hne : ∀ (b : Nat) (o : Obj), W.heap[b]? = some o → (∀ r, o ≠ Obj.loop r) → (W.putObj l (.loop r')).heap[b]? = some o := by
    intro b o hb ho
    rw [World.putObj_heap_other (fun e => by subst e; rw [hl] at hb; exact ho r (Option.some.inj hb).symm)]
    exact hb
  refine h.move (belowK_b (w := w) (Nat.le_refl _) W l _ _ hlb hl rfl rfl |> h.below.trans) (fun b o hb _ _ ho => hne b o hb ho) (hne _ _ h.box (fun r e => by cases e)) ?_ h.mag (h.spz.same (fun g hg => ?_))
  · obtain ⟨h1, h2⟩ := h.row
    refine ⟨h1, ?_⟩
    rcases h2 with h2 | ⟨g, cap, cur, h3, h4, h5, h6⟩
    · exact .inl h2
    · exact .inr ⟨g, cap, cur, h3, h4, hne _ _ h5 (fun r e => by cases e), h6⟩
  · rcases h.row.2 with ⟨e, _⟩ | ⟨g', cap, cur, e, _, h5, _⟩
    · rw [e] at hg; cases hg
    · rw [e] at hg
      obtain rfl : g' = g := Option.some.inj hg
      rw [h5]
      exact hne _ _ h5 (fun r e => by cases e)
theorem own_ne {W : World} {base : Nat} {e : TypeId} {size : Nat} {v : Value} {n : Nat} {xs : List Value} {b : Nat} {o : Obj} (h : W.ownsRow base e size v n xs) (hb : W.heap[b]? = some o) (ho : ∀ cs fr, o ≠ .cells cs e fr) : v.ownBlock ≠ some b := by
  intro hv
  rcases h.2 with ⟨rfl, _⟩ | ⟨g, cap, cur, rfl, _, hg, _⟩
  · cases hv
  · obtain rfl : g = b := Option.some.inj hv
    rw [hg] at hb
    exact ho cur (0, 0) (Option.some.inj hb).symm
theorem TkF.append {w : World} {s : ByteArray} {v v' : Value} {xs : List TM} {W w1 : World} {x : TM} {tmp : Obj} (h : TkF w s v xs W) (hx : Mg w W x)
    (hown' : w1.ownsRow w.heap.size 40 5 v' (xs.length + 1) (xs.flatMap V5 ++ V5 x)) (hgrow : (W.alloc tmp).grownBy w1 v.ownBlock) (hz : SpZ w1 tokZ v') :
    TkF w s v' (xs ++ [x]) (w1.setCell ⟨w.heap.size + 1 + 1, 0, none⟩ v') := by
  obtain ⟨hv1, hv2, hr2, hk2, hb2⟩ := h.box.appended (by decide) h.row h.below.size (by omega) hown' hgrow
  refine h.move (h.below.trans hb2) ?_ hv2 ?_ ?_ (hz.same (fun g hg => Below.heap_setCell _ _ _ _ (fun e => hv1.not_row (by decide) hown' (by rw [hg, e]))))
  · intro b o hb hne ht hl
    rw [append_other hgrow (Array.getElem?_eq_some_iff.1 hb).1 (own_ne h.row hb ht) hne]
    exact hb
  · rw [List.length_append, List.flatMap_append]
    simpa using hr2
  · intro y hy
    rcases List.mem_append.1 hy with hy | hy
    · exact h.mag y hy
    · rw [List.mem_singleton] at hy
      rw [hy]; exact hx
end Go.Proofs.YtkgemeeadkfnhaaDoor
