/-
 Layer 3: words put together with blanks.
-/
import Derived.Test.YtcgdhbgjmapoeaaDoorP09
namespace Go.Proofs.YtcgdhbgjmapoeaaDoor
open Go.RowKit Go.Shelf

theorem size_app (s t : ByteArray) : (s ++ t).size = s.size + t.size := by simp
theorem bt_app_l {s t : ByteArray} {i : Nat} (h : i < s.size) : bt (s ++ t) i = bt s i := by
 rw [bt_eq (s ++ t) i (by rw [size_app]; omega), bt_eq s i h]
 congr 1
 exact ByteArray.getElem_append_left h
theorem bt_app_r {s t : ByteArray} {i : Nat} (h : s.size ≤ i) (h' : i < s.size + t.size) : bt (s ++ t) i = bt t (i - s.size) := by
 rw [bt_eq (s ++ t) i (by rw [size_app]; omega), bt_eq t (i - s.size) (by omega)]
 congr 1
 exact ByteArray.getElem_append_right h
theorem app_nil (s : ByteArray) : s ++ ⟨#[]⟩ = s := by
 refine ba_ext (by rw [size_app]; rfl) fun i hi => ?_
 rw [size_app] at hi
 exact bt_app_l hi
theorem app_assoc (s t u : ByteArray) : s ++ t ++ u = s ++ (t ++ u) := ByteArray.append_assoc

/-- blanks, at least one -/
def blankS (g : ByteArray) : Prop := 0 < g.size ∧ ∀ i, i < g.size → cls (bt g i) = 0
theorem lx_blanks {s : ByteArray} {a n : Nat} {ts : List TD} {x : Int} {p : Nat} (hc : ∀ j, j < n → cls (bt s (a + j)) = 0) (h : Lx s (a + n) ts x p) : Lx s a ts x p := by
 induction n with
 | zero => exact h
 | succ n ih => exact ih (fun j hj => hc j (by omega)) (lx_blank (hc n (by omega)) h)
/-- whatever comes behind a text, these words are ahead of it -/
def Ldr (S : ByteArray) (pre : List TD) : Prop := ∀ u ts e p, Lx (S ++ u) S.size ts e p → Lx (S ++ u) 0 (pre ++ ts) e p
theorem ldr_start {g : ByteArray} (h : blankS g) : Ldr g [] := by
 intro u ts e p hl
 refine lx_blanks (n := g.size) (fun j hj => ?_) (by rw [Nat.zero_add]; exact hl)
 rw [Nat.zero_add, bt_app_l hj]
 exact h.2 j hj
theorem ldr_step {S g s0 : ByteArray} {pre : List TD} {t : TD} {a : Nat} (h : Ldr S pre) (hw : Wd s0 a t) (ha : a < s0.size) (hg : blankS g) : Ldr (S ++ t.text ++ g) (pre ++ [⟨t.kind, t.text, t.num, S.size⟩]) := by
 intro u ts e p hl
 have hpos := wd_size hw ha
 have hg0 := hg.1
 have e1 : S ++ t.text ++ g ++ u = S ++ (t.text ++ (g ++ u)) := by rw [app_assoc, app_assoc]
 have hs1 : (S ++ t.text ++ g).size = S.size + t.text.size + g.size := by rw [size_app, size_app]
 have hs2 : (S ++ (t.text ++ (g ++ u))).size = S.size + t.text.size + g.size + u.size := by rw [size_app, size_app, size_app]; omega
 rw [hs1] at hl
 rw [e1] at hl ⊢
 rw [List.append_assoc]
 have hbT : ∀ i, i < t.text.size → bt (S ++ (t.text ++ (g ++ u))) (S.size + i) = bt t.text i := by
  intro i hi
  rw [bt_app_r (by omega) (by rw [size_app, size_app]; omega), show S.size + i - S.size = i from by omega, bt_app_l hi]
 have hbG : ∀ i, i < g.size → bt (S ++ (t.text ++ (g ++ u))) (S.size + t.text.size + i) = bt g i := by
  intro i hi
  rw [bt_app_r (by omega) (by rw [size_app, size_app]; omega), bt_app_r (by omega) (by rw [size_app]; omega), show S.size + t.text.size + i - S.size - t.text.size = i from by omega, bt_app_l hi]
 have hc0 : cls (bt (S ++ (t.text ++ (g ++ u))) (S.size + t.text.size)) = 0 := by
  have := hbG 0 hg0
  rw [Nat.add_zero] at this
  rw [this]
  exact hg.2 0 hg0
 have hw' := wd_move (S := S ++ (t.text ++ (g ++ u))) (a' := S.size) hw ha (by omega) hbT hc0
 refine h _ _ _ _ (.word (k := S.size) ⟨Nat.le_refl _, by omega, fun j h1 h2 => absurd h1 (by omega), fun _ hc => ?_⟩ (by omega) hw' ?_)
 ·-- no blank: a word begins there
  have h4 := hw.2.2.2
  have e2 : bt (S ++ (t.text ++ (g ++ u))) S.size = bt s0 a := by
   have h5 := hbT 0 hpos
   rw [Nat.add_zero] at h5
   rw [h5]
   have h6 := bt_mid' (s := s0) hw.2.1 hpos
   rw [← hw.2.2.1, Nat.add_zero] at h6
   exact h6
  rw [e2] at hc
  rcases h4 with ⟨c1, _⟩ | ⟨c1, _⟩ | ⟨_, _, x1, o1, _⟩
  ·omega
  ·omega
  ·rw [x1] at o1
   have hp := pfx_iff.1 (sgOf_pfx o1)
   have hsz := hp.1
   have h0 := hp.2 0 (by omega)
   rw [bt_suffix (by omega), Nat.add_zero] at h0
   rw [h0] at hc
   unfold sgOf at hc o1
   cases hq : signL.find? (pfx (s0.extract a s0.size)) with
   | none => rw [hq] at o1; exact absurd o1 (by decide)
   | some q =>
    rw [hq] at hc
    have hm := List.mem_of_find?_eq_some hq
    have key : ∀ q ∈ signL, cls (bt q 0) ≠ 0 := by
     intro q hq
     simp only [signL, List.mem_cons, List.not_mem_nil, or_false] at hq
     rcases hq with rfl | rfl | rfl | rfl | rfl | rfl | rfl | rfl | rfl | rfl | rfl | rfl <;> decide
    exact key q hm hc
 ·show Lx _ (S.size + t.text.size) ts e p
  refine lx_blanks (n := g.size) (fun j hj => ?_) hl
  rw [hbG j hj]
  exact hg.2 j hj
theorem ldr_end {S : ByteArray} {pre : List TD} (h : Ldr S pre) (hs : S.size ≤ 4096) : Lxs S pre 0 0 := by
 unfold Lxs
 rw [if_neg (by omega)]
 have := h ⟨#[]⟩ [] 0 0 (by rw [app_nil]; exact .done ⟨Nat.le_refl _, Nat.le_refl _, fun j h1 h2 => absurd h1 (by omega), fun h => absurd h (by omega)⟩)
 rw [app_nil, List.append_nil] at this
 exact this
/-- the same words, but for their places -/
def SameW (ts us : List TD) : Prop := ts.map (fun t => (t.kind, t.text, t.num)) = us.map (fun t => (t.kind, t.text, t.num))
end Go.Proofs.YtcgdhbgjmapoeaaDoor
