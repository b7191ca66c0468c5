/-
 Several texts in one: RM, QMultiplies, LMultiplies.
-/
import Derived.Test.YtndhjoofbkgkiaaDoorP10
import Derived.Test.YtndhjoofbkgkiaaDoorP19
import Derived.Test.YtndhjoofbkgkiaaDoorP07
import Derived.Deep.RegionHeld3
import Derived.Deep.DeepCutAuto
namespace Go.Proofs.YtndhjoofbkgkiaaDoor
open Go.RowKit

/-- what was there is there still, but for one block -/
structure Ko (o : Option Nat) (w0 w : World) : Prop where
 size : w0.heap.size ≤ w.heap.size
 block : ∀ k, k < w0.heap.size → o ≠ some k → w.heap[k]? = w0.heap[k]?

theorem ko_kept {o : Option Nat} {w0 w : World} (h : Kept w0 w) : Ko o w0 w := ⟨Below.size h, fun k hk _ => Below.block h k hk⟩
theorem ko_step {o : Option Nat} {w0 w1 w2 : World} (k : Below w1.heap.size w1 w2) (h : Ko o w0 w1) : Ko o w0 w2 :=
 ⟨Nat.le_trans h.size k.size, fun i hi ho => (k.block i (Nat.lt_of_lt_of_le hi h.size)).trans (h.block i hi ho)⟩
theorem ko_alloc {o : Option Nat} {w0 w : World} (h : Ko o w0 w) (ob : Obj) : Ko o w0 (w.alloc ob) := ko_step (below_alloc w ob) h
theorem ko_sp {o : Option Nat} {w0 w w' : World} (h : Ko o w0 w) (k : Sp o w w') : Ko o w0 w' :=
 ⟨Nat.le_trans h.size (Nat.le_of_eq k.size.symm), fun i hi ho => (k.block i ho).trans (h.block i hi ho)⟩

/-- a list of two loans, made at w, beside an answer of an earlier world -/
theorem loans2o {o : Option Nat} {w0 wE w wc : World} {a : Option Addr} {l c f1 g1 n1 f2 g2 n2 r b1 b2 : Nat} {zs X1 F1 X2 F2 : List Int} (x : Box w0 b1 f1 g1 n1 X1 F1) (y : Box w0 b2 f2 g2 n2 X2 F2) (h : Out w0 wE a l c zs) (kc : Kept w0 wc)
  (hr : r = w.heap.size) (hd : Ko o wE w)
  (k : Below (w.alloc (.cells #[.slice (some ⟨f1, 0, none⟩) (n1 + 4) (n1 + 4), .int .i64 n1, .slice (some ⟨g1, 0, none⟩) (n1 + 4) (n1 + 4), .slice (some ⟨f2, 0, none⟩) (n2 + 4) (n2 + 4), .int .i64 n2, .slice (some ⟨g2, 0, none⟩) (n2 + 4) (n2 + 4)] 24)).heap.size (w.alloc (.cells #[.slice (some ⟨f1, 0, none⟩) (n1 + 4) (n1 + 4), .int .i64 n1, .slice (some ⟨g1, 0, none⟩) (n1 + 4) (n1 + 4), .slice (some ⟨f2, 0, none⟩) (n2 + 4) (n2 + 4), .int .i64 n2, .slice (some ⟨g2, 0, none⟩) (n2 + 4) (n2 + 4)] 24)) wc) :
  Loans wc (blk a) r 2 := by
 subst hr
 have hne : blk a ≠ some w.heap.size := fun e => by
  have h1 := (h.lt e).2
  have h2 := hd.size
  omega
 have hg := heap_alloc_new w (.cells #[.slice (some ⟨f1, 0, none⟩) (n1 + 4) (n1 + 4), .int .i64 n1, .slice (some ⟨g1, 0, none⟩) (n1 + 4) (n1 + 4), .slice (some ⟨f2, 0, none⟩) (n2 + 4) (n2 + 4), .int .i64 n2, .slice (some ⟨g2, 0, none⟩) (n2 + 4) (n2 + 4)] 24)
 have hc := (k.block w.heap.size (by simp)).trans hg
 refine ⟨hne, fun i hi => ?_⟩
 have hi2 : i = 0 ∨ i = 1 := by omega
 rcases hi2 with rfl | rfl
 ·have L := (x.below kc).lent
  exact ⟨f1, g1, n1, F1, h.ne_old (Kept.refl w0) x.lent.lt1, h.ne_old (Kept.refl w0) x.lent.lt2, cell_of_row _ w.heap.size 0 _ _ (0, 0) hc, cell_of_row _ w.heap.size 2 _ _ (0, 0) hc, L.1, L.2.1, L.2.2.1, L.2.2.2.1, L.2.2.2.2.2⟩
 ·have L := (y.below kc).lent
  exact ⟨f2, g2, n2, F2, h.ne_old (Kept.refl w0) y.lent.lt1, h.ne_old (Kept.refl w0) y.lent.lt2, cell_of_row _ w.heap.size 3 _ _ (0, 0) hc, cell_of_row _ w.heap.size 5 _ _ (0, 0) hc, L.1, L.2.1, L.2.2.1, L.2.2.2.1, L.2.2.2.2.2⟩

/-- an answer of an earlier world, while another block was spoilt -/
theorem Out.ko {o : Option Nat} {w0 wE wc : World} {a : Option Addr} {l c : Nat} {zs : List Int} (h : Out w0 wE a l c zs) (kc : Kept w0 wc) (k : Ko o wE wc) (hne : ∀ b, blk a = some b → o ≠ some b) : Out w0 wc a l c zs :=
 h.keep kc (fun b hb => k.block b (h.lt hb).2 (hne b hb))

/-- 'is' of the answer at a, of the same number as the one at a2; o is what was spoilt already -/
theorem is_o {o : Option Nat} {w0 wE w wc : World} {a a2 : Option Addr} {l c l2 c2 f1 g1 n1 f2 g2 n2 r b1 b2 : Nat} {zs z2 X1 F1 X2 F2 : List Int} {n : Int} (x : Box w0 b1 f1 g1 n1 X1 F1) (y : Box w0 b2 f2 g2 n2 X2 F2)
  (h : Out w0 wE a l c zs) (hz : Canon zs) (hv : val zs = n) (h2 : Out w0 wE a2 l2 c2 z2) (hz2 : Canon z2) (hv2 : val z2 = n) (n1' : ∀ b, blk a = some b → o ≠ some b) (n2' : ∀ b, blk a2 = some b → o ≠ some b)
  (kE : Ko o wE wc) (kc : Kept w0 wc) (hd : Ko o wE w) (hr : r = w.heap.size)
  (k : Below (w.alloc (.cells #[.slice (some ⟨f1, 0, none⟩) (n1 + 4) (n1 + 4), .int .i64 n1, .slice (some ⟨g1, 0, none⟩) (n1 + 4) (n1 + 4), .slice (some ⟨f2, 0, none⟩) (n2 + 4) (n2 + 4), .int .i64 n2, .slice (some ⟨g2, 0, none⟩) (n2 + 4) (n2 + 4)] 24)).heap.size (w.alloc (.cells #[.slice (some ⟨f1, 0, none⟩) (n1 + 4) (n1 + 4), .int .i64 n1, .slice (some ⟨g1, 0, none⟩) (n1 + 4) (n1 + 4), .slice (some ⟨f2, 0, none⟩) (n2 + 4) (n2 + 4), .int .i64 n2, .slice (some ⟨g2, 0, none⟩) (n2 + 4) (n2 + 4)] 24)) wc) :
  Calls Tryd.prog 11 #[.slice a l c, .slice a2 l2 c2, .slice (some ⟨r, 0, none⟩) 2 2] wc fun e w' => e = .returned (.bool true) ∧ Kept w0 w' ∧ Sp (blk a) wc w' := by
 obtain rfl : zs = z2 := canon_inj hz hz2 (by rw [hv, hv2])
 refine (is_any (h.ko kc kE n1') (h2.ko kc kE n2').rd (loans2o x y h kc hr hd k) (by decide)).mono ?_
 rintro e w' ⟨rfl, hs⟩
 exact ⟨rfl, kept_sp kc hs (fun b hb => (h.lt hb).1), hs⟩

theorem ne_none {a : Option Addr} : ∀ b, blk a = some b → (none : Option Nat) ≠ some b := fun _ _ h => by cases h

/-- the first of two: none was spoilt yet -/
theorem is_q {w0 wE w wc : World} {a a2 : Option Addr} {l c l2 c2 f1 g1 n1 f2 g2 n2 r b1 b2 : Nat} {zs z2 X1 F1 X2 F2 : List Int} {n : Int} (x : Box w0 b1 f1 g1 n1 X1 F1) (y : Box w0 b2 f2 g2 n2 X2 F2)
  (h : Out w0 wE a l c zs) (hz : Canon zs) (hv : val zs = n) (h2 : Out w0 wE a2 l2 c2 z2) (hz2 : Canon z2) (hv2 : val z2 = n)
  (kE : Kept wE wc) (kc : Kept w0 wc) (hd : Kept wE w) (hr : r = w.heap.size)
  (k : Below (w.alloc (.cells #[.slice (some ⟨f1, 0, none⟩) (n1 + 4) (n1 + 4), .int .i64 n1, .slice (some ⟨g1, 0, none⟩) (n1 + 4) (n1 + 4), .slice (some ⟨f2, 0, none⟩) (n2 + 4) (n2 + 4), .int .i64 n2, .slice (some ⟨g2, 0, none⟩) (n2 + 4) (n2 + 4)] 24)).heap.size (w.alloc (.cells #[.slice (some ⟨f1, 0, none⟩) (n1 + 4) (n1 + 4), .int .i64 n1, .slice (some ⟨g1, 0, none⟩) (n1 + 4) (n1 + 4), .slice (some ⟨f2, 0, none⟩) (n2 + 4) (n2 + 4), .int .i64 n2, .slice (some ⟨g2, 0, none⟩) (n2 + 4) (n2 + 4)] 24)) wc) :
  Calls Tryd.prog 11 #[.slice a l c, .slice a2 l2 c2, .slice (some ⟨r, 0, none⟩) 2 2] wc fun e w' => e = .returned (.bool true) ∧ Kept w0 w' ∧ Ko (blk a) wE w' :=
 (is_o (o := none) x y h hz hv h2 hz2 hv2 ne_none ne_none (ko_kept kE) kc (ko_kept hd) hr k).mono (by
  rintro e w' ⟨rfl, h1, h2⟩
  exact ⟨rfl, h1, ko_sp (ko_kept kE) h2⟩)

/-- the second of two: the first was spoilt -/
theorem is_r {o : Option Nat} {w0 wE w wc : World} {a a2 : Option Addr} {l c l2 c2 f1 g1 n1 f2 g2 n2 r b1 b2 : Nat} {zs z2 X1 F1 X2 F2 : List Int} {n : Int} (x : Box w0 b1 f1 g1 n1 X1 F1) (y : Box w0 b2 f2 g2 n2 X2 F2)
  (h : Out w0 wE a l c zs) (hz : Canon zs) (hv : val zs = n) (h2 : Out w0 wE a2 l2 c2 z2) (hz2 : Canon z2) (hv2 : val z2 = n) (n1' : ∀ b, blk a = some b → o ≠ some b) (n2' : ∀ b, blk a2 = some b → o ≠ some b)
  (kE : Ko o wE wc) (kc : Kept w0 wc) (hd : Ko o wE w) (hr : r = w.heap.size)
  (k : Below (w.alloc (.cells #[.slice (some ⟨f1, 0, none⟩) (n1 + 4) (n1 + 4), .int .i64 n1, .slice (some ⟨g1, 0, none⟩) (n1 + 4) (n1 + 4), .slice (some ⟨f2, 0, none⟩) (n2 + 4) (n2 + 4), .int .i64 n2, .slice (some ⟨g2, 0, none⟩) (n2 + 4) (n2 + 4)] 24)).heap.size (w.alloc (.cells #[.slice (some ⟨f1, 0, none⟩) (n1 + 4) (n1 + 4), .int .i64 n1, .slice (some ⟨g1, 0, none⟩) (n1 + 4) (n1 + 4), .slice (some ⟨f2, 0, none⟩) (n2 + 4) (n2 + 4), .int .i64 n2, .slice (some ⟨g2, 0, none⟩) (n2 + 4) (n2 + 4)] 24)) wc) :
  Calls Tryd.prog 11 #[.slice a l c, .slice a2 l2 c2, .slice (some ⟨r, 0, none⟩) 2 2] wc fun e w' => e = .returned (.bool true) ∧ Kept w0 w' :=
 (is_o x y h hz hv h2 hz2 hv2 n1' n2' kE kc hd hr k).mono (by
  rintro e w' ⟨rfl, h1, h2⟩
  exact ⟨rfl, h1⟩)

theorem ne_of_quo {aq ar : Option Addr} (h : aq = none ∨ blk aq ≠ blk ar) : ∀ b, blk ar = some b → blk aq ≠ some b := fun b hb e => by
 rcases h with rfl | h
 ·cases e
 ·exact h (e.trans hb.symm)
theorem ne_later {w0 wD wE : World} {aq as' : Option Addr} {l c l2 c2 : Nat} {zs z2 : List Int} (h : Out w0 wD aq l c zs) (h2 : Out wD wE as' l2 c2 z2) : ∀ b, blk as' = some b → blk aq ≠ some b := fun b hb e => by
 have h1 := (h.lt e).2
 have h2 := (h2.lt hb).1
 omega

theorem mul_S {w0 w : World} {p q f1 g1 n1 f2 g2 n2 : Nat} {X1 F1 X2 F2 : List Int} (x : Box w0 p f1 g1 n1 X1 F1) (y : Box w0 q f2 g2 n2 X2 F2) (k : Kept w0 w) :
  Calls Tryd.prog 20 #[.slice (some ⟨f1, 0, none⟩) n1 (n1 + 4), .slice (some ⟨f2, 0, none⟩) n2 (n2 + 4)] w fun e w' => ∃ ad len cap zs, e = .returned (.slice ad len cap) ∧ Out w w' ad len cap zs ∧ Canon zs ∧ val zs = val X1 * val X2 ∧ Below w.heap.size w w' := by
 refine (mul_any (x.below k).lent.rd (y.below k).lent.rd x.lent.2.2.2.2.2 y.lent.2.2.2.2.2).mono ?_
 rintro e w' ⟨ad, len, cap, zs, rfl, ho, hc, hv, hl⟩
 exact ⟨ad, len, cap, zs, rfl, ho, hc, hv, ho.1⟩

theorem refmul_S {w0 w : World} {a1 a2 : Option Addr} {l1 c1 l2 c2 : Nat} {xs ys : List Int} (h1 : Rd w0 a1 l1 c1 xs) (h2 : Rd w0 a2 l2 c2 ys) (hl1 : l1 ≤ 1048576) (hl2 : l2 ≤ 1048576) (k : Kept w0 w) :
  Calls Tryd.prog 21 #[.slice a1 l1 c1, .slice a2 l2 c2] w fun e w' => ∃ ad len cap zs, e = .returned (.slice ad len cap) ∧ Out w w' ad len cap zs ∧ Canon zs ∧ val zs = val xs * val ys ∧ Below w.heap.size w w' := by
 refine (refmul_any (h1.below k) (h2.below k) (by omega) (by omega)).mono ?_
 rintro e w' ⟨ad, len, cap, zs, rfl, ho, hc, hv, hl⟩
 exact ⟨ad, len, cap, zs, rfl, ho, hc, hv, ho.1⟩

/-- quotient and rest of what is lent, by what is 0 or not -/
theorem divmod_SS {w0 : World} {p q f1 g1 n1 f2 g2 n2 : Nat} {X1 F1 X2 F2 : List Int} (x : Box w0 p f1 g1 n1 X1 F1) (y : Box w0 q f2 g2 n2 X2 F2) :
  ∀ w, Kept w0 w → Calls Tryd.prog 17 #[.slice (some ⟨f1, 0, none⟩) n1 (n1 + 4), .slice (some ⟨f2, 0, none⟩) n2 (n2 + 4)] w fun e w' => ∃ (aq : Option Addr) (lq cq : Nat) (ar : Option Addr) (lr cr : Nat) (er : Int), e = .returned (.tuple #[.slice aq lq cq, .slice ar lr cr, .int .i64 er]) ∧
   Hid ((val X2 = 0 ∧ er = 11 ∧ lq = 0 ∧ lr = 0) ∨ (0 < val X2 ∧ er = 0 ∧ ∃ zq zr, Out w0 w' aq lq cq zq ∧ Canon zq ∧ val zq = val X1 / val X2 ∧ Out w0 w' ar lr cr zr ∧ Canon zr ∧ val zr = val X1 % val X2 ∧ (aq = none ∨ blk aq ≠ blk ar))) ∧ Below w.heap.size w w' := by
 intro w k
 have hx := (x.below k).lent.rd
 have hy := (y.below k).lent.rd
 have hnn := val_nonneg hy.2.2.2.1
 by_cases h : val X2 = 0
 ·refine (divmod_zero hx hy h).mono ?_
  rintro e w' ⟨rfl, rfl⟩
  exact ⟨none, 0, 0, none, 0, 0, 11, rfl, hide (Or.inl ⟨h, rfl, rfl, rfl⟩), Below.refl _ _⟩
 ·refine (divmod_any hx hy x.lent.2.2.2.2.2 (by omega)).mono ?_
  rintro e w' ⟨aq, lq, cq, zq, ar, lr, cr, zr, rfl, hoq, hcq, hvq, hor, hcr, hvr, hlq, hb⟩
  exact ⟨aq, lq, cq, ar, lr, cr, 0, rfl, hide (Or.inr ⟨by omega, rfl, zq, zr, hoq.outer k, hcq, hvq, hor.outer k, hcr, hvr, hb⟩), hoq.1⟩

end Go.Proofs.YtndhjoofbkgkiaaDoor

namespace Go.Proofs.YtndhjoofbkgkiaaDoor
open Go.RowKit

/-- the code from the region of that number on -/
def isRegion (n : Nat) : Code → Bool
 | .region m _ _ => m == n
 | _ => false
def fromRegion (n : Nat) : Code → Option Code
 | .seq a b => if isRegion n a then some (.seq a b) else match fromRegion n a with
  | some c => some c
  | none => fromRegion n b
 | .cond _ a b => match fromRegion n a with
  | some c => some c
  | none => fromRegion n b
 | .block _ c => fromRegion n c
 | .scope c => fromRegion n c
 | .loop c => fromRegion n c
 | _ => none
def natMultipliesTailAt (f : Func) : Code := (f.body.bind (fromRegion 10)).getD .skip

set_option maxRecDepth 100000 in
set_option maxHeartbeats 3200000 in
theorem natMultiplies_rest {aa ab : Option Addr} {la ca lb cb : Nat} {xs ys : List Int} {w w0 wc : World} {p q f1 g1 f2 g2 : Nat} {F1 F2 : List Int} {er : Int} {aq ar : Option Addr} {lq cq lr cr : Nat} {u4 u10 u11 u12 u13 u14 u15 u16 u17 u18 u19 u20 u21 u22 u23 u24 u25 u26 u27 u28 u29 u30 u31 u32 u33 u34 u35 u36 u37 u38 u39 u40 u41 u42 u43 u44 u45 u46 u47 u48 u49 u50 u51 u52 u53 u54 u55 u56 u57 u58 u59 u60 u61 u62 u63 u64 u65 u66 u67 u68 u69 u70 u71 u72 u73 u74 u75 u76 u77 u78 u79 u80 u81 u82 u83 u84 u85 u86 u87 u88 u89 u90 u91 u92 u93 u94 : Value}
  (hla : la ≤ 1048576) (hlb : lb ≤ 1048576) (bx : Box w0 p f1 g1 la xs F1) (bY : Box w0 q f2 g2 lb ys F2) (b0 : Below w.heap.size w w0) (ra : Rd w0 aa la ca xs) (rb : Rd w0 ab lb cb ys) (tb : Tab w0) (hcut : Kept w0 wc) :
  Code.wp Tryd.prog (natMultipliesTailAt Tryd.f4) (bodyPost Tryd.prog Tryd.f4 fun e w' => e = .returned (.bool true) ∧ Below w.heap.size w w') ⟨#[.slice aa la ca, .slice ab lb cb, undef, undef, u4, .pointer (some ⟨p, 0, none⟩), .pointer (some ⟨q, 0, none⟩), .slice aq lq cq, .slice ar lr cr, .int .i64 er, u10, u11, u12, u13, u14, u15, u16, u17, u18, u19, u20, u21, u22, u23, u24, u25, u26, u27, u28, u29, u30, u31, u32, u33, u34, u35, u36, u37, u38, u39, u40, u41, u42, u43, u44, u45, u46, u47, u48, u49, u50, u51, u52, u53, u54, u55, u56, u57, u58, u59, u60, u61, u62, u63, u64, u65, u66, u67, u68, u69, u70, u71, u72, u73, u74, u75, u76, u77, u78, u79, u80, u81, u82, u83, u84, u85, u86, u87, u88, u89, u90, u91, u92, u93, u94], []⟩ wc := by
 have hn1 : (0 : Int) ≤ (la : Int) := by omega
 have hn2 : (0 : Int) ≤ (lb : Int) := by omega
 conv => arg 2; whnf
 go_wp2_with fail
 go_region_held3 (fun w' => w'.cell? ⟨p, 0, none⟩ = some (.slice (some ⟨f1, 0, none⟩) (la + 4) (la + 4)) ∧ w'.cell? ⟨p, 1, none⟩ = some (.int .i64 la) ∧ w'.cell? ⟨p, 2, none⟩ = some (.slice (some ⟨g1, 0, none⟩) (la + 4) (la + 4)) ∧ w'.cell? ⟨q, 0, none⟩ = some (.slice (some ⟨f2, 0, none⟩) (lb + 4) (lb + 4)) ∧ w'.cell? ⟨q, 1, none⟩ = some (.int .i64 lb) ∧ w'.cell? ⟨q, 2, none⟩ = some (.slice (some ⟨g2, 0, none⟩) (lb + 4) (lb + 4)) ∧ Kept w0 w')
  ((refine mk_S bx bY ?_; (repeat' (first | with_reducible exact Kept.refl _ | with_reducible assumption | (go_split_ands; with_reducible assumption) | with_reducible refine kept_step (by with_reducible assumption) ?_ | with_reducible refine kept_drew ?_ | with_reducible refine kept_alloc ?_ _ | with_reducible refine kept_drewN ?_ _))))
  (first | (go_at_call 10; refine (list_any (by omega)).mono ?_; rintro e w' ⟨rfl, hg⟩) | (go_at_call 20; first | (with_reducible refine (mul_S bx bY (by (repeat' (first | with_reducible exact Kept.refl _ | with_reducible assumption | (go_split_ands; with_reducible assumption) | with_reducible refine kept_step (by with_reducible assumption) ?_ | with_reducible refine kept_drew ?_ | with_reducible refine kept_alloc ?_ _ | with_reducible refine kept_drewN ?_ _)))).mono ?_; rintro e w' ⟨ad, len, cap, zs, rfl, ho, hcn, hv, hg⟩) | (with_reducible refine (mul_S bx bx (by (repeat' (first | with_reducible exact Kept.refl _ | with_reducible assumption | (go_split_ands; with_reducible assumption) | with_reducible refine kept_step (by with_reducible assumption) ?_ | with_reducible refine kept_drew ?_ | with_reducible refine kept_alloc ?_ _ | with_reducible refine kept_drewN ?_ _)))).mono ?_; rintro e w' ⟨ad, len, cap, zs, rfl, ho, hcn, hv, hg⟩)) | (go_at_call 21; first | (with_reducible refine (refmul_S ra rb hla hlb (by (repeat' (first | with_reducible exact Kept.refl _ | with_reducible assumption | (go_split_ands; with_reducible assumption) | with_reducible refine kept_step (by with_reducible assumption) ?_ | with_reducible refine kept_drew ?_ | with_reducible refine kept_alloc ?_ _ | with_reducible refine kept_drewN ?_ _)))).mono ?_; rintro e w' ⟨ad, len, cap, zs, rfl, ho, hcn, hv, hg⟩) | (with_reducible refine (refmul_S ra ra hla hla (by (repeat' (first | with_reducible exact Kept.refl _ | with_reducible assumption | (go_split_ands; with_reducible assumption) | with_reducible refine kept_step (by with_reducible assumption) ?_ | with_reducible refine kept_drew ?_ | with_reducible refine kept_alloc ?_ _ | with_reducible refine kept_drewN ?_ _)))).mono ?_; rintro e w' ⟨ad, len, cap, zs, rfl, ho, hcn, hv, hg⟩)) | (go_at_call 11; refine (is_two (w0 := w0) (by assumption) (by assumption) (by assumption) ?_ (by assumption) (by assumption) (by assumption) ?_ ?_ ?_ ?_ (by decide)).mono ?_; (all_goals (try ((repeat' (first | with_reducible exact Below.refl _ _ | with_reducible assumption | with_reducible refine grow_step (by with_reducible assumption) ?_ | with_reducible refine grow_drew ?_ | with_reducible refine grow_alloc ?_ _ | with_reducible refine grow_drewN ?_ _)); done))); (all_goals (try ((repeat' (first | with_reducible exact Kept.refl _ | with_reducible assumption | (go_split_ands; with_reducible assumption) | with_reducible refine kept_step (by with_reducible assumption) ?_ | with_reducible refine kept_drew ?_ | with_reducible refine kept_alloc ?_ _ | with_reducible refine kept_drewN ?_ _)); done))); with_reducible refine loans2 bx bY (by assumption) ?_ ?_ rfl ?_ ?_; (all_goals (try ((repeat' (first | with_reducible exact Kept.refl _ | with_reducible assumption | (go_split_ands; with_reducible assumption) | with_reducible refine kept_step (by with_reducible assumption) ?_ | with_reducible refine kept_drew ?_ | with_reducible refine kept_alloc ?_ _ | with_reducible refine kept_drewN ?_ _)); done))); (all_goals (try ((repeat' (first | with_reducible exact Below.refl _ _ | with_reducible assumption | with_reducible refine grow_step (by with_reducible assumption) ?_ | with_reducible refine grow_drew ?_ | with_reducible refine grow_alloc ?_ _ | with_reducible refine grow_drewN ?_ _)); done))); (first | (refine Or.inl ?_; focus ((repeat' (first | with_reducible exact Below.refl _ _ | with_reducible assumption | with_reducible refine grow_step (by with_reducible assumption) ?_ | with_reducible refine grow_drew ?_ | with_reducible refine grow_alloc ?_ _ | with_reducible refine grow_drewN ?_ _)); done)) | (refine Or.inr ?_; focus ((repeat' (first | with_reducible exact Below.refl _ _ | with_reducible assumption | with_reducible refine grow_step (by with_reducible assumption) ?_ | with_reducible refine grow_drew ?_ | with_reducible refine grow_alloc ?_ _ | with_reducible refine grow_drewN ?_ _)); done))); rintro e w' ⟨rfl, hk⟩) | (go_at_call 11; refine (is_two (w0 := w0) (by assumption) (by assumption) (by assumption) ?_ (by assumption) (by assumption) (by assumption) ?_ ?_ ?_ ?_ (by decide)).mono ?_; (all_goals (try ((repeat' (first | with_reducible exact Below.refl _ _ | with_reducible assumption | with_reducible refine grow_step (by with_reducible assumption) ?_ | with_reducible refine grow_drew ?_ | with_reducible refine grow_alloc ?_ _ | with_reducible refine grow_drewN ?_ _)); done))); (all_goals (try ((repeat' (first | with_reducible exact Kept.refl _ | with_reducible assumption | (go_split_ands; with_reducible assumption) | with_reducible refine kept_step (by with_reducible assumption) ?_ | with_reducible refine kept_drew ?_ | with_reducible refine kept_alloc ?_ _ | with_reducible refine kept_drewN ?_ _)); done))); with_reducible refine loans1 bx (by assumption) ?_ ?_ rfl ?_ ?_; (all_goals (try ((repeat' (first | with_reducible exact Kept.refl _ | with_reducible assumption | (go_split_ands; with_reducible assumption) | with_reducible refine kept_step (by with_reducible assumption) ?_ | with_reducible refine kept_drew ?_ | with_reducible refine kept_alloc ?_ _ | with_reducible refine kept_drewN ?_ _)); done))); (all_goals (try ((repeat' (first | with_reducible exact Below.refl _ _ | with_reducible assumption | with_reducible refine grow_step (by with_reducible assumption) ?_ | with_reducible refine grow_drew ?_ | with_reducible refine grow_alloc ?_ _ | with_reducible refine grow_drewN ?_ _)); done))); (first | (refine Or.inl ?_; focus ((repeat' (first | with_reducible exact Below.refl _ _ | with_reducible assumption | with_reducible refine grow_step (by with_reducible assumption) ?_ | with_reducible refine grow_drew ?_ | with_reducible refine grow_alloc ?_ _ | with_reducible refine grow_drewN ?_ _)); done)) | (refine Or.inr ?_; focus ((repeat' (first | with_reducible exact Below.refl _ _ | with_reducible assumption | with_reducible refine grow_step (by with_reducible assumption) ?_ | with_reducible refine grow_drew ?_ | with_reducible refine grow_alloc ?_ _ | with_reducible refine grow_drewN ?_ _)); done))); rintro e w' ⟨rfl, hk⟩) | (go_at_call 16; refine (known_S tb (by (repeat' (first | with_reducible exact Kept.refl _ | with_reducible assumption | (go_split_ands; with_reducible assumption) | with_reducible refine kept_step (by with_reducible assumption) ?_ | with_reducible refine kept_drew ?_ | with_reducible refine kept_alloc ?_ _ | with_reducible refine kept_drewN ?_ _)))).mono ?_; rintro e w' ⟨rfl, hg⟩))
 all_goals (
  have kf : Kept w0 w' := by (repeat' (first | with_reducible exact Kept.refl _ | with_reducible assumption | (go_split_ands; with_reducible assumption) | with_reducible refine kept_step (by with_reducible assumption) ?_ | with_reducible refine kept_drew ?_ | with_reducible refine kept_alloc ?_ _ | with_reducible refine kept_drewN ?_ _))
  go_wp2_with fail
  go_ret
  exact ⟨rfl, b0.trans (Below.mono kf b0.size)⟩)
end Go.Proofs.YtndhjoofbkgkiaaDoor

namespace Go.Proofs.YtndhjoofbkgkiaaDoor
open Go.RowKit

set_option maxRecDepth 100000 in
set_option maxHeartbeats 3200000 in
theorem natMultiplies_walk {aa ab : Option Addr} {la ca lb cb : Nat} {xs ys : List Int} {w : World} (ha : Rd w aa la ca xs) (hb : Rd w ab lb cb ys) (hla : la ≤ 1048576) (hlb : lb ≤ 1048576) (htab : Tab w) :
  Calls Tryd.prog 4 #[.slice aa la ca, .slice ab lb cb] w fun e w' => e = .returned (.bool true) ∧ Below w.heap.size w w' := by
 go_enter Tryd.func4, Tryd.ntmps4
 go_wp2_with fail
 refine (lend_any ha (by omega)).mono ?_
 rintro e w1 ⟨f1, g1, F1, rfl, b1, -, -, lent1⟩
 go_wp2_with fail
 have bx := box_new lent1
 have b2 := below_alloc' b1 (.cells #[.slice (some ⟨f1, 0, none⟩) (la + 4) (la + 4), .int .i64 la, .slice (some ⟨g1, 0, none⟩) (la + 4) (la + 4)] 24)
 generalize w1.alloc (.cells #[.slice (some ⟨f1, 0, none⟩) (la + 4) (la + 4), .int .i64 la, .slice (some ⟨g1, 0, none⟩) (la + 4) (la + 4)] 24) = w2 at *
 generalize w1.heap.size = p at *
 clear b1 lent1
 refine (lend_any (hb.below b2) (by omega)).mono ?_
 rintro e w3 ⟨f2, g2, F2, rfl, b3, -, -, lent2⟩
 go_wp2_with fail
 have bY := box_new lent2
 have b4 := below_alloc' b3 (.cells #[.slice (some ⟨f2, 0, none⟩) (lb + 4) (lb + 4), .int .i64 lb, .slice (some ⟨g2, 0, none⟩) (lb + 4) (lb + 4)] 24)
 generalize w3.alloc (.cells #[.slice (some ⟨f2, 0, none⟩) (lb + 4) (lb + 4), .int .i64 lb, .slice (some ⟨g2, 0, none⟩) (lb + 4) (lb + 4)] 24) = w0 at *
 generalize w3.heap.size = q at *
 clear b3 lent2
 replace bx := bx.below b4
 have b0 := b2.trans (b4.mono b2.size)
 clear b2 b4
 have ra := ha.below b0
 have rb := hb.below b0
 have tb := htab.below b0
 clear ha hb htab
 have hn1 : (0 : Int) ≤ (la : Int) := by omega
 have hn2 : (0 : Int) ≤ (lb : Int) := by omega
 have HS := divmod_SS bx bY
 go_region_held3 (fun w' => w'.cell? ⟨p, 0, none⟩ = some (.slice (some ⟨f1, 0, none⟩) (la + 4) (la + 4)) ∧ w'.cell? ⟨p, 1, none⟩ = some (.int .i64 la) ∧ w'.cell? ⟨p, 2, none⟩ = some (.slice (some ⟨g1, 0, none⟩) (la + 4) (la + 4)) ∧ w'.cell? ⟨q, 0, none⟩ = some (.slice (some ⟨f2, 0, none⟩) (lb + 4) (lb + 4)) ∧ w'.cell? ⟨q, 1, none⟩ = some (.int .i64 lb) ∧ w'.cell? ⟨q, 2, none⟩ = some (.slice (some ⟨g2, 0, none⟩) (lb + 4) (lb + 4)) ∧ Kept w0 w')
  ((refine mk_S bx bY ?_; (repeat' (first | with_reducible exact Kept.refl _ | with_reducible assumption | (go_split_ands; with_reducible assumption) | with_reducible refine kept_step (by with_reducible assumption) ?_ | with_reducible refine kept_drew ?_ | with_reducible refine kept_alloc ?_ _ | with_reducible refine kept_drewN ?_ _))))
  (first | (go_at_call 10; refine (list_any (by omega)).mono ?_; rintro e w' ⟨rfl, hg⟩) | (go_at_call 17; refine (HS _ (by (repeat' (first | with_reducible exact Kept.refl _ | with_reducible assumption | (go_split_ands; with_reducible assumption) | with_reducible refine kept_step (by with_reducible assumption) ?_ | with_reducible refine kept_drew ?_ | with_reducible refine kept_alloc ?_ _ | with_reducible refine kept_drewN ?_ _)))).mono ?_; rintro e w' ⟨aq, lq, cq, ar, lr, cr, er, rfl, hcase, hg⟩))
 clear HS
 have kD : Kept w0 w' := by (repeat' (first | with_reducible exact Kept.refl _ | with_reducible assumption | (go_split_ands; with_reducible assumption) | with_reducible refine kept_step (by with_reducible assumption) ?_ | with_reducible refine kept_drew ?_ | with_reducible refine kept_alloc ?_ _ | with_reducible refine kept_drewN ?_ _))
 generalize w' = wD at *
 go_wp2_with fail
 refine (trim_any (rb.below kD) (by omega)).mono ?_
 rintro e wT ⟨rfl, hoT, -⟩
 have kT : Kept w0 wT := kept_step hoT.1 kD
 have kDT := hoT.1
 have htl := tl_le ys lb
 have hz : Hid (tl ys lb = 0 ↔ val ys = 0) := by
  have hv := val_trim ys
  have hc := canon_trim rb.2.2.2.1
  have hln := hoT.rd.1
  show _ ↔ _
  rw [← hv, ← hln]
  constructor
  ·intro h
   rw [List.eq_nil_of_length_eq_zero h]; rfl
  ·intro h
   rcases Nat.eq_zero_or_pos (trim ys).length with h2 | h2
   ·exact h2
   ·have h3 := canon_low hc h2
    have := pw_pos ((trim ys).length - 1)
    omega
 generalize tl ys lb = nt at *
 clear hoT
 go_upto_if 28 with (fail)
 go_cut [] (fun w' => Kept w0 w')
 case first =>
  rcases unhide hcase with ⟨hy0, rfl, rfl, rfl⟩ | ⟨hypos, rfl, zq, zr, hoq, hcq, hvq, hor, hcr, hvr, hblk⟩
  ·obtain rfl : nt = 0 := hz.out.2 hy0
   go_wp2_with fail
   go_meet
   case rel => (repeat' (first | with_reducible exact Kept.refl _ | with_reducible assumption | (go_split_ands; with_reducible assumption) | with_reducible refine kept_step (by with_reducible assumption) ?_ | with_reducible refine kept_drew ?_ | with_reducible refine kept_alloc ?_ _ | with_reducible refine kept_drewN ?_ _))
  ·have hnt : 0 < nt := by
    have := hz.out
    omega
   have HP := hide hypos
   clear hcase
   go_wp2_with fail
   refine (refdivmod_out (ra.below kT) (rb.below kT) (by omega) (by omega) HP.out).mono ?_
   rintro e wE ⟨as', ls, cs, zs, at', lt, ct, zt, rfl, hos, hcs, hvs, hot, hct, hvt, -, -⟩
   have kE0 : Kept w0 wE := kept_step hos.1 kT
   have kDE : Below wD.heap.size wD wE := grow_step hos.1 kDT
   have hn1' := ne_of_quo hblk
   have hn2' := ne_later (hoq.later kDT) hot
   replace hoq := hoq.later kDE
   replace hor := hor.later kDE
   replace hos := hos.outer kT
   replace hot := hot.outer kT
   clear hblk kD kDT kT kDE
   obtain ⟨s0, s1, s2, s3, s4, s5, -⟩ := mk_S bx bY kE0
   go_wp2_with fail
   (go_at_call 11; with_reducible refine (is_q bx bY hoq hcq hvq hos hcs hvs ?_ ?_ ?_ rfl ?_).mono ?_; (all_goals (try ((repeat' (first | with_reducible exact Kept.refl _ | with_reducible assumption | (go_split_ands; with_reducible assumption) | with_reducible refine kept_step (by with_reducible assumption) ?_ | with_reducible refine kept_drew ?_ | with_reducible refine kept_alloc ?_ _ | with_reducible refine kept_drewN ?_ _)); done))); (all_goals (try ((repeat' (first | with_reducible exact Below.refl _ _ | with_reducible assumption | with_reducible refine grow_step (by with_reducible assumption) ?_ | with_reducible refine grow_drew ?_ | with_reducible refine grow_alloc ?_ _ | with_reducible refine grow_drewN ?_ _)); done))); rintro e w' ⟨rfl, hk, hko⟩)
   clear s0 s1 s2 s3 s4 s5
   obtain ⟨s0, s1, s2, s3, s4, s5, -⟩ := mk_S bx bY hk
   go_wp2_with fail
   (go_at_call 11; with_reducible refine (is_r bx bY hor hcr hvr hot hct hvt hn1' hn2' ?_ ?_ ?_ rfl ?_).mono ?_; (all_goals (try ((repeat' (first | with_reducible assumption | with_reducible refine ko_step (by with_reducible assumption) ?_ | with_reducible refine ko_drew ?_ | with_reducible refine ko_alloc ?_ _ | with_reducible refine ko_drewN ?_ _)); done))); (all_goals (try ((repeat' (first | with_reducible exact Kept.refl _ | with_reducible assumption | (go_split_ands; with_reducible assumption) | with_reducible refine kept_step (by with_reducible assumption) ?_ | with_reducible refine kept_drew ?_ | with_reducible refine kept_alloc ?_ _ | with_reducible refine kept_drewN ?_ _)); done))); (all_goals (try ((repeat' (first | with_reducible exact Below.refl _ _ | with_reducible assumption | with_reducible refine grow_step (by with_reducible assumption) ?_ | with_reducible refine grow_drew ?_ | with_reducible refine grow_alloc ?_ _ | with_reducible refine grow_drewN ?_ _)); done))); rintro e w' ⟨rfl, hk⟩)
   go_wp2_with fail
   go_meet
   case rel => (repeat' (first | with_reducible exact Kept.refl _ | with_reducible assumption | (go_split_ands; with_reducible assumption) | with_reducible refine kept_step (by with_reducible assumption) ?_ | with_reducible refine kept_drew ?_ | with_reducible refine kept_alloc ?_ _ | with_reducible refine kept_drewN ?_ _))
 case rest =>
  rename_i hK
  exact hK _ _ (natMultiplies_rest hla hlb bx bY b0 ra rb tb hcut)
end Go.Proofs.YtndhjoofbkgkiaaDoor
