/-
  What stands while a law with loans goes on: the boxes of the loans, what is kept, answers and lists of loans in later worlds.
-/
import Derived.Test.YtfmljpibkopmiaaDoorR2
import Derived.Test.YtfmljpibkopmiaaDoorR3
import Derived.Test.YtfmljpibkopmiaaDoorK2
import Derived.Test.YtfmljpibkopmiaaDoorKp
namespace Go.Proofs.YtfmljpibkopmiaaDoor
open Go.RowKit

theorem Lent.below {w w' : World} {f g n : Nat} {xs F : List Int} (h : Lent w f g n xs F) (hb : Below w.heap.size w w') : Lent w' f g n xs F :=
  ⟨h.1.below hb, h.2.1.below hb, h.2.2⟩

/-- what is handed in: the list that is lent -/
theorem Lent.rd {w : World} {f g n : Nat} {xs F : List Int} (h : Lent w f g n xs F) : Rd w (some ⟨f, 0, none⟩) n (n + 4) xs := by
  obtain ⟨h1, _, h3, h4, h5, h6⟩ := h
  have := h1.rd h4 (off := 0) (len := n) (cap := n + 4) (by omega) (by omega) (by omega)
  rw [List.drop_zero, h5] at this
  exact this

/-- the variable of a loan -/
structure Box (w : World) (b f g n : Nat) (xs F : List Int) : Prop where
  c0 : w.cell? ⟨b, 0, none⟩ = some (.slice (some ⟨f, 0, none⟩) (n + 4) (n + 4))
  c1 : w.cell? ⟨b, 1, none⟩ = some (.int .i64 n)
  c2 : w.cell? ⟨b, 2, none⟩ = some (.slice (some ⟨g, 0, none⟩) (n + 4) (n + 4))
  lt : b < w.heap.size
  lent : Lent w f g n xs F

theorem Box.below {w w' : World} {b f g n : Nat} {xs F : List Int} (h : Box w b f g n xs F) (hb : Below w.heap.size w w') : Box w' b f g n xs F :=
  ⟨(hb.cell (p := ⟨b, 0, none⟩) h.lt).trans h.c0, (hb.cell (p := ⟨b, 1, none⟩) h.lt).trans h.c1, (hb.cell (p := ⟨b, 2, none⟩) h.lt).trans h.c2, Nat.lt_of_lt_of_le h.lt hb.size, h.lent.below hb⟩

theorem box_new {w : World} {f g n : Nat} {xs F : List Int} (h : Lent w f g n xs F) :
    Box (w.alloc (.cells #[.slice (some ⟨f, 0, none⟩) (n + 4) (n + 4), .int .i64 n, .slice (some ⟨g, 0, none⟩) (n + 4) (n + 4)] 24)) w.heap.size f g n xs F := by
  have hg := heap_alloc_new w (.cells #[.slice (some ⟨f, 0, none⟩) (n + 4) (n + 4), .int .i64 n, .slice (some ⟨g, 0, none⟩) (n + 4) (n + 4)] 24)
  exact ⟨cell_of_row _ w.heap.size 0 _ _ (0, 0) hg, cell_of_row _ w.heap.size 1 _ _ (0, 0) hg, cell_of_row _ w.heap.size 2 _ _ (0, 0) hg, by simp, h.below (below_alloc w _)⟩

theorem kept_sp {w0 w1 w2 : World} {r : Option Nat} (h : Kept w0 w1) (k : Sp r w1 w2) (hr : ∀ b, r = some b → w0.heap.size ≤ b) : Kept w0 w2 := Below.trans h (k.below hr)

theorem ne_before {wp w1 w : World} {a : Option Addr} {l c : Nat} {zs : List Int} {o : Obj} (h : Out wp w1 a l c zs) (k : Below (w.alloc o).heap.size (w.alloc o) wp) : blk a ≠ some w.heap.size := fun e => by
  have h1 := (h.lt e).1
  have h2 := k.size
  simp at h2
  omega

theorem ne_after {wp w1 w : World} {a : Option Addr} {l c : Nat} {zs : List Int} (h : Out wp w1 a l c zs) (k : Below w1.heap.size w1 w) : blk a ≠ some w.heap.size := fun e => by
  have h1 := (h.lt e).2
  have h2 := k.size
  omega

theorem Out.ne_old {w0 wp w1 : World} {a : Option Addr} {l c b : Nat} {zs : List Int} (h : Out wp w1 a l c zs) (k : Kept w0 wp) (hb : b < w0.heap.size) : blk a ≠ some b := fun e => by
  have h1 := (h.lt e).1
  have h2 := Below.size k
  omega

theorem Lent.lt1 {w : World} {f g n : Nat} {xs F : List Int} (h : Lent w f g n xs F) : f < w.heap.size := h.1.lt
theorem Lent.lt2 {w : World} {f g n : Nat} {xs F : List Int} (h : Lent w f g n xs F) : g < w.heap.size := h.2.1.lt

/-- a list of two loans, made at w -/
theorem loans2 {w0 w wc wp w1 : World} {a : Option Addr} {l c f1 g1 n1 f2 g2 n2 r b1 b2 : Nat} {zs X1 F1 X2 F2 : List Int} (x : Box w0 b1 f1 g1 n1 X1 F1) (y : Box w0 b2 f2 g2 n2 X2 F2) (h : Out wp w1 a l c zs) (kp : Kept w0 wp) (kc : Kept w0 wc)
    (hr : r = w.heap.size) (hd : Below w1.heap.size w1 w ∨ Below (w.alloc (.cells #[.slice (some ⟨f1, 0, none⟩) (n1 + 4) (n1 + 4), .int .i64 n1, .slice (some ⟨g1, 0, none⟩) (n1 + 4) (n1 + 4), .slice (some ⟨f2, 0, none⟩) (n2 + 4) (n2 + 4), .int .i64 n2, .slice (some ⟨g2, 0, none⟩) (n2 + 4) (n2 + 4)] 24)).heap.size (w.alloc (.cells #[.slice (some ⟨f1, 0, none⟩) (n1 + 4) (n1 + 4), .int .i64 n1, .slice (some ⟨g1, 0, none⟩) (n1 + 4) (n1 + 4), .slice (some ⟨f2, 0, none⟩) (n2 + 4) (n2 + 4), .int .i64 n2, .slice (some ⟨g2, 0, none⟩) (n2 + 4) (n2 + 4)] 24)) wp)
    (k : Below (w.alloc (.cells #[.slice (some ⟨f1, 0, none⟩) (n1 + 4) (n1 + 4), .int .i64 n1, .slice (some ⟨g1, 0, none⟩) (n1 + 4) (n1 + 4), .slice (some ⟨f2, 0, none⟩) (n2 + 4) (n2 + 4), .int .i64 n2, .slice (some ⟨g2, 0, none⟩) (n2 + 4) (n2 + 4)] 24)).heap.size (w.alloc (.cells #[.slice (some ⟨f1, 0, none⟩) (n1 + 4) (n1 + 4), .int .i64 n1, .slice (some ⟨g1, 0, none⟩) (n1 + 4) (n1 + 4), .slice (some ⟨f2, 0, none⟩) (n2 + 4) (n2 + 4), .int .i64 n2, .slice (some ⟨g2, 0, none⟩) (n2 + 4) (n2 + 4)] 24)) wc) :
    Loans wc (blk a) r 2 := by
  subst hr
  have hne : blk a ≠ some w.heap.size := hd.elim (fun k => ne_after h k) (fun k => ne_before h k)
  have hg := heap_alloc_new w (.cells #[.slice (some ⟨f1, 0, none⟩) (n1 + 4) (n1 + 4), .int .i64 n1, .slice (some ⟨g1, 0, none⟩) (n1 + 4) (n1 + 4), .slice (some ⟨f2, 0, none⟩) (n2 + 4) (n2 + 4), .int .i64 n2, .slice (some ⟨g2, 0, none⟩) (n2 + 4) (n2 + 4)] 24)
  have hc := (k.block w.heap.size (by simp)).trans hg
  refine ⟨hne, fun i hi => ?_⟩
  have hi2 : i = 0 ∨ i = 1 := by omega
  rcases hi2 with rfl | rfl
  · have L := (x.below kc).lent
    exact ⟨f1, g1, n1, F1, h.ne_old kp x.lent.lt1, h.ne_old kp x.lent.lt2, cell_of_row _ w.heap.size 0 _ _ (0, 0) hc, cell_of_row _ w.heap.size 2 _ _ (0, 0) hc, L.1, L.2.1, L.2.2.1, L.2.2.2.1, L.2.2.2.2.2⟩
  · have L := (y.below kc).lent
    exact ⟨f2, g2, n2, F2, h.ne_old kp y.lent.lt1, h.ne_old kp y.lent.lt2, cell_of_row _ w.heap.size 3 _ _ (0, 0) hc, cell_of_row _ w.heap.size 5 _ _ (0, 0) hc, L.1, L.2.1, L.2.2.1, L.2.2.2.1, L.2.2.2.2.2⟩

/-- .. of one loan -/
theorem loans1 {w0 w wc wp w1 : World} {a : Option Addr} {l c f1 g1 n1 r b1 : Nat} {zs X1 F1 : List Int} (x : Box w0 b1 f1 g1 n1 X1 F1) (h : Out wp w1 a l c zs) (kp : Kept w0 wp) (kc : Kept w0 wc)
    (hr : r = w.heap.size) (hd : Below w1.heap.size w1 w ∨ Below (w.alloc (.cells #[.slice (some ⟨f1, 0, none⟩) (n1 + 4) (n1 + 4), .int .i64 n1, .slice (some ⟨g1, 0, none⟩) (n1 + 4) (n1 + 4)] 24)).heap.size (w.alloc (.cells #[.slice (some ⟨f1, 0, none⟩) (n1 + 4) (n1 + 4), .int .i64 n1, .slice (some ⟨g1, 0, none⟩) (n1 + 4) (n1 + 4)] 24)) wp)
    (k : Below (w.alloc (.cells #[.slice (some ⟨f1, 0, none⟩) (n1 + 4) (n1 + 4), .int .i64 n1, .slice (some ⟨g1, 0, none⟩) (n1 + 4) (n1 + 4)] 24)).heap.size (w.alloc (.cells #[.slice (some ⟨f1, 0, none⟩) (n1 + 4) (n1 + 4), .int .i64 n1, .slice (some ⟨g1, 0, none⟩) (n1 + 4) (n1 + 4)] 24)) wc) :
    Loans wc (blk a) r 1 := by
  subst hr
  have hne : blk a ≠ some w.heap.size := hd.elim (fun k => ne_after h k) (fun k => ne_before h k)
  have hg := heap_alloc_new w (.cells #[.slice (some ⟨f1, 0, none⟩) (n1 + 4) (n1 + 4), .int .i64 n1, .slice (some ⟨g1, 0, none⟩) (n1 + 4) (n1 + 4)] 24)
  have hc := (k.block w.heap.size (by simp)).trans hg
  refine ⟨hne, fun i hi => ?_⟩
  obtain rfl : i = 0 := by omega
  have L := (x.below kc).lent
  exact ⟨f1, g1, n1, F1, h.ne_old kp x.lent.lt1, h.ne_old kp x.lent.lt2, cell_of_row _ w.heap.size 0 _ _ (0, 0) hc, cell_of_row _ w.heap.size 2 _ _ (0, 0) hc, L.1, L.2.1, L.2.2.1, L.2.2.2.1, L.2.2.2.2.2⟩

theorem known_S {w0 w : World} (htab : Tab w0) (k : Kept w0 w) : Calls Tryd.prog 12 #[] w fun e w' => e = .returned (.bool true) ∧ Below w.heap.size w w' := known_any w (htab.below k)

/-- 'is' of two answers of one number -/
theorem is_two {w0 wc wp w1 vp v1 : World} {a a2 : Option Addr} {l c l2 c2 r m : Nat} {zs z2 : List Int} {n : Int} (h : Out wp w1 a l c zs) (hz : Canon zs) (hv : val zs = n) (k : Below w1.heap.size w1 wc) (h2 : Out vp v1 a2 l2 c2 z2) (hz2 : Canon z2) (hv2 : val z2 = n) (k2 : Below v1.heap.size v1 wc)
    (kp : Kept w0 wp) (kc : Kept w0 wc) (hL : Loans wc (blk a) r m) (hm : m ≤ 2) :
    Calls Tryd.prog 5 #[.slice a l c, .slice a2 l2 c2, .slice (some ⟨r, 0, none⟩) m m] wc fun e w' => e = .returned (.bool true) ∧ Kept w0 w' := by
  obtain rfl : zs = z2 := canon_inj hz hz2 (by rw [hv, hv2])
  refine (is_any (h.later k) (h2.later k2).rd hL hm).mono ?_
  rintro e w' ⟨rfl, hs⟩
  exact ⟨rfl, kept_sp kc hs (fun b hb => by have := (h.lt hb).1; have := Below.size kp; omega)⟩

/-- the two boxes as a region reads them, and what is kept -/
theorem mk_S {w0 w : World} {p q f1 g1 n1 f2 g2 n2 : Nat} {X1 F1 X2 F2 : List Int} (x : Box w0 p f1 g1 n1 X1 F1) (y : Box w0 q f2 g2 n2 X2 F2) (k : Kept w0 w) :
    w.cell? ⟨p, 0, none⟩ = some (.slice (some ⟨f1, 0, none⟩) (n1 + 4) (n1 + 4)) ∧ w.cell? ⟨p, 1, none⟩ = some (.int .i64 n1) ∧ w.cell? ⟨p, 2, none⟩ = some (.slice (some ⟨g1, 0, none⟩) (n1 + 4) (n1 + 4)) ∧
    w.cell? ⟨q, 0, none⟩ = some (.slice (some ⟨f2, 0, none⟩) (n2 + 4) (n2 + 4)) ∧ w.cell? ⟨q, 1, none⟩ = some (.int .i64 n2) ∧ w.cell? ⟨q, 2, none⟩ = some (.slice (some ⟨g2, 0, none⟩) (n2 + 4) (n2 + 4)) ∧ Kept w0 w :=
  ⟨(x.below k).c0, (x.below k).c1, (x.below k).c2, (y.below k).c0, (y.below k).c1, (y.below k).c2, k⟩

theorem cmp_S {w0 w : World} {p q f1 g1 n1 f2 g2 n2 : Nat} {X1 F1 X2 F2 : List Int} {c : Int} (x : Box w0 p f1 g1 n1 X1 F1) (y : Box w0 q f2 g2 n2 X2 F2) (k : Kept w0 w) (hc : cmpI (val X1) (val X2) = c) :
    Calls Tryd.prog 28 #[.slice (some ⟨f1, 0, none⟩) n1 (n1 + 4), .slice (some ⟨f2, 0, none⟩) n2 (n2 + 4)] w fun e w' => e = .returned (.int .i64 c) ∧ Below w.heap.size w w' := by
  subst hc
  refine (cmp_any (x.below k).lent.rd (y.below k).lent.rd).mono ?_
  rintro e w' ⟨rfl, q, rfl⟩
  exact ⟨rfl, below_drewN _ _ _⟩

theorem refadd_S {w0 w : World} {a1 a2 : Option Addr} {l1 c1 l2 c2 : Nat} {xs ys : List Int} (h1 : Rd w0 a1 l1 c1 xs) (h2 : Rd w0 a2 l2 c2 ys) (hl1 : l1 ≤ 1048576) (hl2 : l2 ≤ 1048576) (k : Kept w0 w) :
    Calls Tryd.prog 33 #[.slice a1 l1 c1, .slice a2 l2 c2] w fun e w' => ∃ ad len cap zs, e = .returned (.slice ad len cap) ∧ Out w w' ad len cap zs ∧ Canon zs ∧ val zs = val xs + val ys ∧ Below w.heap.size w w' := by
  refine (refadd_any (h1.below k) (h2.below k) (by omega) (by omega)).mono ?_
  rintro e w' ⟨ad, len, cap, zs, rfl, ho, hc, hv, hl⟩
  exact ⟨ad, len, cap, zs, rfl, ho, hc, hv, ho.1⟩

theorem refsub_S {w0 w : World} {a1 a2 : Option Addr} {l1 c1 l2 c2 : Nat} {xs ys : List Int} (h1 : Rd w0 a1 l1 c1 xs) (h2 : Rd w0 a2 l2 c2 ys) (hl1 : l1 ≤ 1048576) (hge : val ys ≤ val xs) (k : Kept w0 w) :
    Calls Tryd.prog 20 #[.slice a1 l1 c1, .slice a2 l2 c2] w fun e w' => ∃ ad len cap zs, e = .returned (.slice ad len cap) ∧ Out w w' ad len cap zs ∧ Canon zs ∧ val zs = val xs - val ys ∧ Below w.heap.size w w' := by
  refine (refsub_any (h1.below k) (h2.below k) (by omega) hge).mono ?_
  rintro e w' ⟨ad, len, cap, zs, rfl, ho, hc, hv, hl⟩
  exact ⟨ad, len, cap, zs, rfl, ho, hc, hv, ho.1⟩

end Go.Proofs.YtfmljpibkopmiaaDoor
