/-
  What NatMultiplies asks: products and quotients of loans, and an answer that stays while another one is spoilt.
-/
import Derived.Test.YtcmlkofcmgbceaaDoorR4
import Derived.Test.YtcmlkofcmgbceaaDoorR7
import Derived.Test.YtcmlkofcmgbceaaDoorD5
namespace Go.Proofs.YtcmlkofcmgbceaaDoor
open Go.RowKit

/-- what was there is there still, but for one block -/
structure Ko (o : Option Nat) (w0 w : World) : Prop where
  size : w0.heap.size ≤ w.heap.size
  block : ∀ k, k < w0.heap.size → o ≠ some k → w.heap[k]? = w0.heap[k]?

theorem Ko.refl (o : Option Nat) (w : World) : Ko o w w := ⟨Nat.le_refl _, fun _ _ _ => rfl⟩
theorem ko_kept {o : Option Nat} {w0 w : World} (h : Kept w0 w) : Ko o w0 w := ⟨Below.size h, fun k hk _ => Below.block h k hk⟩
theorem ko_step {o : Option Nat} {w0 w1 w2 : World} (k : Below w1.heap.size w1 w2) (h : Ko o w0 w1) : Ko o w0 w2 :=
  ⟨Nat.le_trans h.size k.size, fun i hi ho => (k.block i (Nat.lt_of_lt_of_le hi h.size)).trans (h.block i hi ho)⟩
theorem ko_alloc {o : Option Nat} {w0 w : World} (h : Ko o w0 w) (ob : Obj) : Ko o w0 (w.alloc ob) := ko_step (below_alloc w ob) h
theorem ko_drew {o : Option Nat} {w0 w : World} (h : Ko o w0 w) : Ko o w0 w.drew := ko_step (Below.drew (Below.refl _ _)) h
theorem ko_drewN {o : Option Nat} {w0 w : World} (h : Ko o w0 w) (n : Nat) : Ko o w0 (w.drewN n) := ko_step (below_drewN _ _ _) h
theorem ko_sp {o : Option Nat} {w0 w w' : World} (h : Ko o w0 w) (k : Sp o w w') : Ko o w0 w' :=
  ⟨Nat.le_trans h.size (Nat.le_of_eq k.size.symm), fun i hi ho => (k.block i ho).trans (h.block i hi ho)⟩

/-- a list of two loans, made at w, beside an answer of an earlier world -/
theorem loans2o {o : Option Nat} {w0 wE w wc : World} {a : Option Addr} {l c f1 g1 n1 f2 g2 n2 r b1 b2 : Nat} {zs X1 F1 X2 F2 : List Int} (x : Box w0 b1 f1 g1 n1 X1 F1) (y : Box w0 b2 f2 g2 n2 X2 F2) (h : Out w0 wE a l c zs) (kc : Kept w0 wc)
    (hr : r = w.heap.size) (hd : Ko o wE w)
    (k : Below (w.alloc (.cells #[.slice (some ⟨f1, 0, none⟩) (n1 + 4) (n1 + 4), .int .i64 n1, .slice (some ⟨g1, 0, none⟩) (n1 + 4) (n1 + 4), .slice (some ⟨f2, 0, none⟩) (n2 + 4) (n2 + 4), .int .i64 n2, .slice (some ⟨g2, 0, none⟩) (n2 + 4) (n2 + 4)] 24)).heap.size (w.alloc (.cells #[.slice (some ⟨f1, 0, none⟩) (n1 + 4) (n1 + 4), .int .i64 n1, .slice (some ⟨g1, 0, none⟩) (n1 + 4) (n1 + 4), .slice (some ⟨f2, 0, none⟩) (n2 + 4) (n2 + 4), .int .i64 n2, .slice (some ⟨g2, 0, none⟩) (n2 + 4) (n2 + 4)] 24)) wc) :
    Loans wc (blk a) r 2 := by
  subst hr
  have hne : blk a ≠ some w.heap.size := fun e => by
    have h1 := (h.lt e).2
    have h2 := hd.size
    omega
  have hg := heap_alloc_new w (.cells #[.slice (some ⟨f1, 0, none⟩) (n1 + 4) (n1 + 4), .int .i64 n1, .slice (some ⟨g1, 0, none⟩) (n1 + 4) (n1 + 4), .slice (some ⟨f2, 0, none⟩) (n2 + 4) (n2 + 4), .int .i64 n2, .slice (some ⟨g2, 0, none⟩) (n2 + 4) (n2 + 4)] 24)
  have hc := (k.block w.heap.size (by simp)).trans hg
  refine ⟨hne, fun i hi => ?_⟩
  have hi2 : i = 0 ∨ i = 1 := by omega
  rcases hi2 with rfl | rfl
  · have L := (x.below kc).lent
    exact ⟨f1, g1, n1, F1, h.ne_old (Kept.refl w0) x.lent.lt1, h.ne_old (Kept.refl w0) x.lent.lt2, cell_of_row _ w.heap.size 0 _ _ (0, 0) hc, cell_of_row _ w.heap.size 2 _ _ (0, 0) hc, L.1, L.2.1, L.2.2.1, L.2.2.2.1, L.2.2.2.2.2⟩
  · have L := (y.below kc).lent
    exact ⟨f2, g2, n2, F2, h.ne_old (Kept.refl w0) y.lent.lt1, h.ne_old (Kept.refl w0) y.lent.lt2, cell_of_row _ w.heap.size 3 _ _ (0, 0) hc, cell_of_row _ w.heap.size 5 _ _ (0, 0) hc, L.1, L.2.1, L.2.2.1, L.2.2.2.1, L.2.2.2.2.2⟩

/-- an answer of an earlier world, while another block was spoilt -/
theorem Out.ko {o : Option Nat} {w0 wE wc : World} {a : Option Addr} {l c : Nat} {zs : List Int} (h : Out w0 wE a l c zs) (kc : Kept w0 wc) (k : Ko o wE wc) (hne : ∀ b, blk a = some b → o ≠ some b) : Out w0 wc a l c zs :=
  h.keep kc (fun b hb => k.block b (h.lt hb).2 (hne b hb))

/-- 'is' of the answer at a, of the same number as the one at a2; o is what was spoilt already -/
theorem is_o {o : Option Nat} {w0 wE w wc : World} {a a2 : Option Addr} {l c l2 c2 f1 g1 n1 f2 g2 n2 r b1 b2 : Nat} {zs z2 X1 F1 X2 F2 : List Int} {n : Int} (x : Box w0 b1 f1 g1 n1 X1 F1) (y : Box w0 b2 f2 g2 n2 X2 F2)
    (h : Out w0 wE a l c zs) (hz : Canon zs) (hv : val zs = n) (h2 : Out w0 wE a2 l2 c2 z2) (hz2 : Canon z2) (hv2 : val z2 = n) (n1' : ∀ b, blk a = some b → o ≠ some b) (n2' : ∀ b, blk a2 = some b → o ≠ some b)
    (kE : Ko o wE wc) (kc : Kept w0 wc) (hd : Ko o wE w) (hr : r = w.heap.size)
    (k : Below (w.alloc (.cells #[.slice (some ⟨f1, 0, none⟩) (n1 + 4) (n1 + 4), .int .i64 n1, .slice (some ⟨g1, 0, none⟩) (n1 + 4) (n1 + 4), .slice (some ⟨f2, 0, none⟩) (n2 + 4) (n2 + 4), .int .i64 n2, .slice (some ⟨g2, 0, none⟩) (n2 + 4) (n2 + 4)] 24)).heap.size (w.alloc (.cells #[.slice (some ⟨f1, 0, none⟩) (n1 + 4) (n1 + 4), .int .i64 n1, .slice (some ⟨g1, 0, none⟩) (n1 + 4) (n1 + 4), .slice (some ⟨f2, 0, none⟩) (n2 + 4) (n2 + 4), .int .i64 n2, .slice (some ⟨g2, 0, none⟩) (n2 + 4) (n2 + 4)] 24)) wc) :
    Calls Tryd.prog 12 #[.slice a l c, .slice a2 l2 c2, .slice (some ⟨r, 0, none⟩) 2 2] wc fun e w' => e = .returned (.bool true) ∧ Kept w0 w' ∧ Sp (blk a) wc w' := by
  obtain rfl : zs = z2 := canon_inj hz hz2 (by rw [hv, hv2])
  refine (is_any (h.ko kc kE n1') (h2.ko kc kE n2').rd (loans2o x y h kc hr hd k) (by decide)).mono ?_
  rintro e w' ⟨rfl, hs⟩
  exact ⟨rfl, kept_sp kc hs (fun b hb => (h.lt hb).1), hs⟩

theorem ne_none {a : Option Addr} : ∀ b, blk a = some b → (none : Option Nat) ≠ some b := fun _ _ h => nomatch h

/-- the first of two: none was spoilt yet -/
theorem is_q {w0 wE w wc : World} {a a2 : Option Addr} {l c l2 c2 f1 g1 n1 f2 g2 n2 r b1 b2 : Nat} {zs z2 X1 F1 X2 F2 : List Int} {n : Int} (x : Box w0 b1 f1 g1 n1 X1 F1) (y : Box w0 b2 f2 g2 n2 X2 F2)
    (h : Out w0 wE a l c zs) (hz : Canon zs) (hv : val zs = n) (h2 : Out w0 wE a2 l2 c2 z2) (hz2 : Canon z2) (hv2 : val z2 = n)
    (kE : Kept wE wc) (kc : Kept w0 wc) (hd : Kept wE w) (hr : r = w.heap.size)
    (k : Below (w.alloc (.cells #[.slice (some ⟨f1, 0, none⟩) (n1 + 4) (n1 + 4), .int .i64 n1, .slice (some ⟨g1, 0, none⟩) (n1 + 4) (n1 + 4), .slice (some ⟨f2, 0, none⟩) (n2 + 4) (n2 + 4), .int .i64 n2, .slice (some ⟨g2, 0, none⟩) (n2 + 4) (n2 + 4)] 24)).heap.size (w.alloc (.cells #[.slice (some ⟨f1, 0, none⟩) (n1 + 4) (n1 + 4), .int .i64 n1, .slice (some ⟨g1, 0, none⟩) (n1 + 4) (n1 + 4), .slice (some ⟨f2, 0, none⟩) (n2 + 4) (n2 + 4), .int .i64 n2, .slice (some ⟨g2, 0, none⟩) (n2 + 4) (n2 + 4)] 24)) wc) :
    Calls Tryd.prog 12 #[.slice a l c, .slice a2 l2 c2, .slice (some ⟨r, 0, none⟩) 2 2] wc fun e w' => e = .returned (.bool true) ∧ Kept w0 w' ∧ Ko (blk a) wE w' :=
  (is_o (o := none) x y h hz hv h2 hz2 hv2 ne_none ne_none (ko_kept kE) kc (ko_kept hd) hr k).mono (by
    rintro e w' ⟨rfl, h1, h2⟩
    exact ⟨rfl, h1, ko_sp (ko_kept kE) h2⟩)

/-- the second of two: the first was spoilt -/
theorem is_r {o : Option Nat} {w0 wE w wc : World} {a a2 : Option Addr} {l c l2 c2 f1 g1 n1 f2 g2 n2 r b1 b2 : Nat} {zs z2 X1 F1 X2 F2 : List Int} {n : Int} (x : Box w0 b1 f1 g1 n1 X1 F1) (y : Box w0 b2 f2 g2 n2 X2 F2)
    (h : Out w0 wE a l c zs) (hz : Canon zs) (hv : val zs = n) (h2 : Out w0 wE a2 l2 c2 z2) (hz2 : Canon z2) (hv2 : val z2 = n) (n1' : ∀ b, blk a = some b → o ≠ some b) (n2' : ∀ b, blk a2 = some b → o ≠ some b)
    (kE : Ko o wE wc) (kc : Kept w0 wc) (hd : Ko o wE w) (hr : r = w.heap.size)
    (k : Below (w.alloc (.cells #[.slice (some ⟨f1, 0, none⟩) (n1 + 4) (n1 + 4), .int .i64 n1, .slice (some ⟨g1, 0, none⟩) (n1 + 4) (n1 + 4), .slice (some ⟨f2, 0, none⟩) (n2 + 4) (n2 + 4), .int .i64 n2, .slice (some ⟨g2, 0, none⟩) (n2 + 4) (n2 + 4)] 24)).heap.size (w.alloc (.cells #[.slice (some ⟨f1, 0, none⟩) (n1 + 4) (n1 + 4), .int .i64 n1, .slice (some ⟨g1, 0, none⟩) (n1 + 4) (n1 + 4), .slice (some ⟨f2, 0, none⟩) (n2 + 4) (n2 + 4), .int .i64 n2, .slice (some ⟨g2, 0, none⟩) (n2 + 4) (n2 + 4)] 24)) wc) :
    Calls Tryd.prog 12 #[.slice a l c, .slice a2 l2 c2, .slice (some ⟨r, 0, none⟩) 2 2] wc fun e w' => e = .returned (.bool true) ∧ Kept w0 w' :=
  (is_o x y h hz hv h2 hz2 hv2 n1' n2' kE kc hd hr k).mono (by
    rintro e w' ⟨rfl, h1, h2⟩
    exact ⟨rfl, h1⟩)

theorem ne_of_quo {aq ar : Option Addr} (h : aq = none ∨ blk aq ≠ blk ar) : ∀ b, blk ar = some b → blk aq ≠ some b := fun b hb e => by
  rcases h with rfl | h
  · cases e
  · exact h (e.trans hb.symm)
theorem ne_later {w0 wD wE : World} {aq as' : Option Addr} {l c l2 c2 : Nat} {zs z2 : List Int} (h : Out w0 wD aq l c zs) (h2 : Out wD wE as' l2 c2 z2) : ∀ b, blk as' = some b → blk aq ≠ some b := fun b hb e => by
  have h1 := (h.lt e).2
  have h2 := (h2.lt hb).1
  omega

theorem mul_S {w0 w : World} {p q f1 g1 n1 f2 g2 n2 : Nat} {X1 F1 X2 F2 : List Int} (x : Box w0 p f1 g1 n1 X1 F1) (y : Box w0 q f2 g2 n2 X2 F2) (k : Kept w0 w) :
    Calls Tryd.prog 13 #[.slice (some ⟨f1, 0, none⟩) n1 (n1 + 4), .slice (some ⟨f2, 0, none⟩) n2 (n2 + 4)] w fun e w' => ∃ ad len cap zs, e = .returned (.slice ad len cap) ∧ Out w w' ad len cap zs ∧ Canon zs ∧ val zs = val X1 * val X2 ∧ Below w.heap.size w w' := by
  refine (mul_any (x.below k).lent.rd (y.below k).lent.rd x.lent.2.2.2.2.2 y.lent.2.2.2.2.2).mono ?_
  rintro e w' ⟨ad, len, cap, zs, rfl, ho, hc, hv, hl⟩
  exact ⟨ad, len, cap, zs, rfl, ho, hc, hv, ho.1⟩

theorem refmul_S {w0 w : World} {a1 a2 : Option Addr} {l1 c1 l2 c2 : Nat} {xs ys : List Int} (h1 : Rd w0 a1 l1 c1 xs) (h2 : Rd w0 a2 l2 c2 ys) (hl1 : l1 ≤ 1048576) (hl2 : l2 ≤ 1048576) (k : Kept w0 w) :
    Calls Tryd.prog 14 #[.slice a1 l1 c1, .slice a2 l2 c2] w fun e w' => ∃ ad len cap zs, e = .returned (.slice ad len cap) ∧ Out w w' ad len cap zs ∧ Canon zs ∧ val zs = val xs * val ys ∧ Below w.heap.size w w' := by
  refine (refmul_any (h1.below k) (h2.below k) (by omega) (by omega)).mono ?_
  rintro e w' ⟨ad, len, cap, zs, rfl, ho, hc, hv, hl⟩
  exact ⟨ad, len, cap, zs, rfl, ho, hc, hv, ho.1⟩

/-- quotient and rest of what is lent, by what is 0 or not -/
theorem divmod_SS {w0 : World} {p q f1 g1 n1 f2 g2 n2 : Nat} {X1 F1 X2 F2 : List Int} (x : Box w0 p f1 g1 n1 X1 F1) (y : Box w0 q f2 g2 n2 X2 F2) :
    ∀ w, Kept w0 w → Calls Tryd.prog 8 #[.slice (some ⟨f1, 0, none⟩) n1 (n1 + 4), .slice (some ⟨f2, 0, none⟩) n2 (n2 + 4)] w fun e w' => ∃ (aq : Option Addr) (lq cq : Nat) (ar : Option Addr) (lr cr : Nat) (er : Int), e = .returned (.tuple #[.slice aq lq cq, .slice ar lr cr, .int .i64 er]) ∧
      Hid ((val X2 = 0 ∧ er = 11 ∧ lq = 0 ∧ lr = 0) ∨ (0 < val X2 ∧ er = 0 ∧ ∃ zq zr, Out w0 w' aq lq cq zq ∧ Canon zq ∧ val zq = val X1 / val X2 ∧ Out w0 w' ar lr cr zr ∧ Canon zr ∧ val zr = val X1 % val X2 ∧ (aq = none ∨ blk aq ≠ blk ar))) ∧ Below w.heap.size w w' := by
  intro w k
  have hx := (x.below k).lent.rd
  have hy := (y.below k).lent.rd
  have hnn := val_nonneg hy.2.2.2.1
  by_cases h : val X2 = 0
  · refine (divmod_zero hx hy h).mono ?_
    rintro e w' ⟨rfl, rfl⟩
    exact ⟨none, 0, 0, none, 0, 0, 11, rfl, hide (Or.inl ⟨h, rfl, rfl, rfl⟩), Below.refl _ _⟩
  · refine (divmod_any hx hy x.lent.2.2.2.2.2 (by omega)).mono ?_
    rintro e w' ⟨aq, lq, cq, zq, ar, lr, cr, zr, rfl, hoq, hcq, hvq, hor, hcr, hvr, hlq, hb⟩
    exact ⟨aq, lq, cq, ar, lr, cr, 0, rfl, hide (Or.inr ⟨by omega, rfl, zq, zr, hoq.outer k, hcq, hvq, hor.outer k, hcr, hvr, hb⟩), hoq.1⟩

end Go.Proofs.YtcmlkofcmgbceaaDoor
