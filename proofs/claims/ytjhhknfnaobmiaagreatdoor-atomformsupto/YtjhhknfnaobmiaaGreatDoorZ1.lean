/-
 Layer 2: numbers with a sign.
-/
import Derived.Test.YtjhhknfnaobmiaaGreatDoorKp
import Derived.Test.YtjhhknfnaobmiaaGreatDoorJ4
import Derived.Test.YtjhhknfnaobmiaaGreatDoorK2
import Derived.Deep.RegionHeld3
namespace Go.Proofs.YtjhhknfnaobmiaaGreatDoor
open Go.RowKit

def sg (s : Bool) (n : Int) : Int := if s then -n else n
theorem sg_not (s : Bool) (n : Int) : sg (!s) n = -sg s n := by cases s <;> simp [sg]
theorem sg_abs {s : Bool} {n : Int} (h : 0 ≤ n) : sg false n = ((sg s n).natAbs : Int) := by cases s <;> simp [sg] <;> omega
theorem sg_mul (s1 s2 : Bool) (m n : Int) : sg (!(s1 == s2)) (m * n) = sg s1 m * sg s2 n := by cases s1 <;> cases s2 <;> simp [sg, Int.neg_mul, Int.mul_neg]
/-- a sign and a slice that say the number z -/
def Zm (w : World) (s : Bool) (ad : Option Addr) (len cap : Nat) (z : Int) : Prop := ∃ n, Nm w ad len cap n ∧ z = sg s n
/-- .. as it should stand -/
def Zn (w : World) (s : Bool) (ad : Option Addr) (len cap : Nat) (z : Int) : Prop := ∃ n, Cn w ad len cap n ∧ z = sg s n ∧ (s = true → n ≠ 0)

theorem Zn.zm {w : World} {s : Bool} {ad : Option Addr} {len cap : Nat} {z : Int} (h : Zn w s ad len cap z) : Zm w s ad len cap z := by
 obtain ⟨n, h1, h2, _⟩ := h; exact ⟨n, h1.nm, h2⟩
theorem Zm.below {w w' : World} {s : Bool} {ad : Option Addr} {len cap : Nat} {z : Int} (h : Zm w s ad len cap z) (hb : Below w.heap.size w w') : Zm w' s ad len cap z := by
 obtain ⟨n, h1, h2⟩ := h; exact ⟨n, h1.below hb, h2⟩
theorem Zn.below {w w' : World} {s : Bool} {ad : Option Addr} {len cap : Nat} {z : Int} (h : Zn w s ad len cap z) (hb : Below w.heap.size w w') : Zn w' s ad len cap z := by
 obtain ⟨n, h1, h2⟩ := h; exact ⟨n, h1.below hb, h2⟩

theorem nm_nil (w : World) : Nm w none 0 0 0 := ⟨[], ⟨rfl, by decide, by decide, fun z hz => (by cases hz), Or.inl ⟨rfl, rfl, rfl⟩⟩, rfl⟩

theorem bare_n2 {a : Option Addr} {l c : Nat} {n : Int} {w : World} (h : Nm w a l c n) (hl : l ≤ 1099511627776) :
  Calls Tryz.prog 127 #[.slice a l c] w fun e w' => ∃ ad len cap, e = .returned (.slice ad len cap) ∧ Cn w' ad len cap n ∧ Below w.heap.size w w' ∧ len ≤ l + 1 := by
 go_enter Tryz.func127, Tryz.ntmps127
 go_wp2_with fail
 refine (add_n h (nm_nil w) hl (by decide)).mono ?_
 rintro e w' ⟨ad, len, cap, rfl, hc, hb, hl'⟩
 go_wp2
 go_ret
 exact ⟨ad, len, cap, rfl, by simpa using hc, hb, by omega⟩

/-- the block of a variable that holds a number with a sign -/
def ZB (w : World) (b : Nat) (s : Bool) (a : Option Addr) (l c : Nat) : Prop := w.heap[b]? = some (.cells #[.bool s, .slice a l c] 24 (0, 0))
theorem ZB.c0 {w : World} {b : Nat} {s : Bool} {a : Option Addr} {l c : Nat} (h : ZB w b s a l c) : w.cell? ⟨b, 0, none⟩ = some (.bool s) := cell_of_row w b 0 _ _ (0, 0) h
theorem ZB.c1 {w : World} {b : Nat} {s : Bool} {a : Option Addr} {l c : Nat} (h : ZB w b s a l c) : w.cell? ⟨b, 1, none⟩ = some (.slice a l c) := cell_of_row w b 1 _ _ (0, 0) h
theorem ZB.f {w : World} {b : Nat} {s : Bool} {a : Option Addr} {l c : Nat} (h : ZB w b s a l c) (i : Nat) : w.frozen? ⟨b, i, none⟩ = false := frozen_of_row w b i _ _ h
theorem ZB.lt {w : World} {b : Nat} {s : Bool} {a : Option Addr} {l c : Nat} (h : ZB w b s a l c) : b < w.heap.size := by
 have h' : w.heap[b]? = some _ := h
 rcases Nat.lt_or_ge b w.heap.size with hb | hb
 ·exact hb
 ·rw [Array.getElem?_eq_none hb] at h'; cases h'
theorem ZB.below {w w' : World} {b : Nat} {s : Bool} {a : Option Addr} {l c : Nat} (h : ZB w b s a l c) (hb : Below w.heap.size w w') : ZB w' b s a l c := (hb.block b h.lt).trans h
theorem zb_new (w : World) (s : Bool) (a : Option Addr) (l c : Nat) : ZB (w.alloc (.cells #[.bool s, .slice a l c] 24)) w.heap.size s a l c := heap_alloc_new w _
theorem zb_fin {w : World} {b : Nat} {s : Bool} {a : Option Addr} {l c : Nat} (h : ZB w b s a l c) (s' : Bool) (a' : Option Addr) (l' c' : Nat) :
  ZB ((w.setCell ⟨b, 0, none⟩ (.bool s')).setCell ⟨b, 1, none⟩ (.slice a' l' c')) b s' a' l' c' :=
 heap_setCell_same _ b 1 _ _ _ (heap_setCell_same w b 0 _ _ _ h)
/-- limbs don't lie in such a block -/
theorem zb_apart {w : World} {r l c : Nat} {s : Bool} {a : Option Addr} {ad : Option Addr} {len cap : Nat} {zs : List Int} (y : ZB w r s a l c) (h : Rd w ad len cap zs) :
  ∀ x off, ad = some ⟨x, off, none⟩ → len = 0 ∨ x ≠ r := by
 intro x off hx
 obtain ⟨_, _, _, _, h5⟩ := h
 rcases h5 with ⟨h5, _⟩ | ⟨a0, h5, h6⟩
 ·rw [h5] at hx; cases hx
 ·rw [hx] at h5
  injection h5 with h5
  subst h5
  rcases h6 with h6 | ⟨b, o, h6, _, h7⟩
  ·exact Or.inl h6
  ·injection h6 with e1 e2 _
   subst e1 e2
   by_cases h0 : len = 0
   ·exact Or.inl h0
   ·refine Or.inr fun e => ?_
    subst e
    have h8 := h7 0 (by omega)
    rw [Nat.add_zero, cell_of_row w x off _ _ (0, 0) y] at h8
    match off with
    | 0 => simp at h8
    | 1 => simp at h8
    | k + 2 => simp at h8
theorem zb_zn {w : World} {r l c : Nat} {s : Bool} {a : Option Addr} {s1 : Bool} {ad : Option Addr} {len cap : Nat} {z : Int} (y : ZB w r s a l c) (h : Zn w s1 ad len cap z) (s' : Bool) (a' : Option Addr) (l' c' : Nat) :
  Zn ((w.setCell ⟨r, 0, none⟩ (.bool s')).setCell ⟨r, 1, none⟩ (.slice a' l' c')) s1 ad len cap z := by
 obtain ⟨n, ⟨zs, h1, h2, h3⟩, h4⟩ := h
 exact ⟨n, ⟨zs, h1.only ((Only.set r 0 w _).trans (Only.set r 1 _ _)) (zb_apart y h1), h2, h3⟩, h4⟩

theorem stand_n {s : Bool} {a : Option Addr} {l c : Nat} {n : Int} {w : World} (h : Cn w a l c n) :
  Calls Tryz.prog 77 #[.bool s, .slice a l c] w fun e w' => ∃ s', e = .returned (.agg #[.bool s', .slice a l c]) ∧ Zn w' s' a l c (sg s n) ∧ Below w.heap.size w w' := by
 have hn := h.len
 go_enter Tryz.func77, Tryz.ntmps77
 cases s
 ·go_wp2
  refine bodyPost_ret (results_cell_row rfl _ _ w.heap.size 24 _ (0, 0) _ rfl (zb_new w _ _ _ _) Tryz.underlying24 rfl (by kernel_rfl)) rfl ?_
  exact ⟨false, by simp, ⟨n, h.below (below_alloc _ _), rfl, fun h => by cases h⟩, below_alloc _ _⟩
 ·go_wp2
  refine bodyPost_ret (results_cell_row rfl _ _ w.heap.size 24 _ (0, 0) _ rfl (zb_new w _ _ _ _) Tryz.underlying24 rfl (by kernel_rfl)) rfl ?_
  refine ⟨decide (0 < l), by simp, ⟨n, h.below (below_alloc _ _), ?_, fun h => ?_⟩, below_alloc _ _⟩
  ·by_cases h0 : 0 < l
   ·simp [h0]
   ·have : n = 0 := hn.2 (by omega)
    simp [sg, this]
  ·have h0 : 0 < l := of_decide_eq_true h
   intro h1; have := hn.1 h1; omega

/-- variables that are read in a region that ends by writing the answer's block r -/
theorem zs1 {wb w' : World} {p r l c : Nat} {s : Bool} {a : Option Addr} (x : ZB wb p s a l c) (hp : p < r) (k : Below r wb w') :
  w'.cell? ⟨p, 0, none⟩ = some (.bool s) ∧ w'.cell? ⟨p, 1, none⟩ = some (.slice a l c) ∧ Below r wb w' :=
 ⟨ZB.c0 ((k.block p hp).trans x), ZB.c1 ((k.block p hp).trans x), k⟩
theorem zs2 {wb w' : World} {p q r l1 c1 l2 c2 : Nat} {s1 s2 : Bool} {a1 a2 : Option Addr} (x : ZB wb p s1 a1 l1 c1) (x2 : ZB wb q s2 a2 l2 c2) (hp : p < r) (hq : q < r) (k : Below r wb w') :
  w'.cell? ⟨p, 0, none⟩ = some (.bool s1) ∧ w'.cell? ⟨p, 1, none⟩ = some (.slice a1 l1 c1) ∧ w'.cell? ⟨q, 0, none⟩ = some (.bool s2) ∧ w'.cell? ⟨q, 1, none⟩ = some (.slice a2 l2 c2) ∧ Below r wb w' :=
 ⟨ZB.c0 ((k.block p hp).trans x), ZB.c1 ((k.block p hp).trans x), ZB.c0 ((k.block q hq).trans x2), ZB.c1 ((k.block q hq).trans x2), k⟩

set_option maxRecDepth 100000 in
set_option maxHeartbeats 1600000 in
theorem norm_n {s : Bool} {a : Option Addr} {l c : Nat} {z : Int} {w : World} (h : Zm w s a l c z) (hl : l ≤ 1099511627776) :
  Calls Tryz.prog 82 #[.agg #[.bool s, .slice a l c]] w fun e w' => ∃ s' ad len cap, e = .returned (.agg #[.bool s', .slice ad len cap]) ∧ Zn w' s' ad len cap z ∧ Below w.heap.size w w' ∧ len ≤ l + 1 := by
 obtain ⟨n, hn, rfl⟩ := h
 go_enter Tryz.func82, Tryz.ntmps82
 go_wp2_with fail
 have x := (zb_new w s a l c).below (below_alloc _ (.cells #[.bool false, .slice none 0 0] 24))
 have y := zb_new (w.alloc (.cells #[.bool s, .slice a l c] 24)) false none 0 0
 have b0 : Below w.heap.size w ((w.alloc (.cells #[.bool s, .slice a l c] 24)).alloc (.cells #[.bool false, .slice none 0 0] 24)) := below_alloc' (below_alloc _ _) _
 rw [show (w.alloc (.cells #[.bool s, .slice a l c] 24)).heap.size = w.heap.size + 1 from by simp] at y
 generalize (w.alloc (.cells #[.bool s, .slice a l c] 24)).alloc (.cells #[.bool false, .slice none 0 0] 24) = wb at *
 have hpr : w.heap.size < w.heap.size + 1 := by omega
 replace hn := hn.below b0
 generalize hp : w.heap.size = p at *
 replace hp := hide hp
 generalize p + 1 = r at *
 have hrb := Nat.le_of_lt y.lt
 go_region_held3 (fun w' => w'.cell? ⟨p, 0, none⟩ = some (.bool s) ∧ w'.cell? ⟨p, 1, none⟩ = some (.slice a l c) ∧ Below r wb w')
  ((refine zs1 x hpr ?_; first | (refine Below.mono ?_ hrb; focus ((repeat' (first | with_reducible exact Below.refl _ _ | with_reducible assumption | with_reducible refine grow_step (by with_reducible assumption) ?_ | with_reducible refine grow_drew ?_ | with_reducible refine grow_alloc ?_ _ | with_reducible refine grow_drewN ?_ _)); done)) | (refine ((Below.mono ?_ hrb).setCell (Nat.le_refl _) _).setCell (Nat.le_refl _) _; focus ((repeat' (first | with_reducible exact Below.refl _ _ | with_reducible assumption | with_reducible refine grow_step (by with_reducible assumption) ?_ | with_reducible refine grow_drew ?_ | with_reducible refine grow_alloc ?_ _ | with_reducible refine grow_drewN ?_ _)); done))))
  (first | (go_at_call 127; refine (bare_n2 (Nm.below hn (by (repeat' (first | with_reducible exact Below.refl _ _ | with_reducible assumption | with_reducible refine grow_step (by with_reducible assumption) ?_ | with_reducible refine grow_drew ?_ | with_reducible refine grow_alloc ?_ _ | with_reducible refine grow_drewN ?_ _)))) hl).mono ?_; rintro e w' ⟨ad, len, cap, rfl, hc, hg, hl'⟩) | (go_at_call 77; refine (stand_n (Cn.below hc (by (repeat' (first | with_reducible exact Below.refl _ _ | with_reducible assumption | with_reducible refine grow_step (by with_reducible assumption) ?_ | with_reducible refine grow_drew ?_ | with_reducible refine grow_alloc ?_ _ | with_reducible refine grow_drewN ?_ _))))).mono ?_; rintro e w' ⟨s', rfl, hz, hg⟩; have y' : ZB w' r false none 0 0 := ZB.below y (by (repeat' (first | with_reducible exact Below.refl _ _ | with_reducible assumption | with_reducible refine grow_step (by with_reducible assumption) ?_ | with_reducible refine grow_drew ?_ | with_reducible refine grow_alloc ?_ _ | with_reducible refine grow_drewN ?_ _))); have y0 := y'.c0; have y1 := y'.c1; have y2 := y'.f 0; have y3 := y'.f 1))
 go_wp2
 rename_i hH
 refine bodyPost_ret (results_cell_row rfl _ _ r 24 _ (0, 0) _ rfl (zb_fin y' s' ad len cap) Tryz.underlying24 rfl (by kernel_rfl)) rfl ?_
 exact ⟨s', ad, len, cap, by simp, zb_zn y' hz _ _ _ _, hp.out.symm ▸ (b0.trans (hH.2.2.mono (Nat.le_of_lt hpr))), hl'⟩

set_option maxRecDepth 100000 in
set_option maxHeartbeats 1600000 in
theorem neg_n {s : Bool} {a : Option Addr} {l c : Nat} {z : Int} {w : World} (h : Zm w s a l c z) (hl : l ≤ 1099511627776) :
  Calls Tryz.prog 97 #[.agg #[.bool s, .slice a l c]] w fun e w' => ∃ s' ad len cap, e = .returned (.agg #[.bool s', .slice ad len cap]) ∧ Zn w' s' ad len cap (-z) ∧ Below w.heap.size w w' ∧ len ≤ l + 1 := by
 obtain ⟨n, hn, rfl⟩ := h
 rw [← sg_not]
 go_enter Tryz.func97, Tryz.ntmps97
 go_wp2_with fail
 have x := (zb_new w s a l c).below (below_alloc _ (.cells #[.bool false, .slice none 0 0] 24))
 have y := zb_new (w.alloc (.cells #[.bool s, .slice a l c] 24)) false none 0 0
 have b0 : Below w.heap.size w ((w.alloc (.cells #[.bool s, .slice a l c] 24)).alloc (.cells #[.bool false, .slice none 0 0] 24)) := below_alloc' (below_alloc _ _) _
 rw [show (w.alloc (.cells #[.bool s, .slice a l c] 24)).heap.size = w.heap.size + 1 from by simp] at y
 generalize (w.alloc (.cells #[.bool s, .slice a l c] 24)).alloc (.cells #[.bool false, .slice none 0 0] 24) = wb at *
 have hpr : w.heap.size < w.heap.size + 1 := by omega
 replace hn := hn.below b0
 generalize hp : w.heap.size = p at *
 replace hp := hide hp
 generalize p + 1 = r at *
 have hrb := Nat.le_of_lt y.lt
 go_region_held3 (fun w' => w'.cell? ⟨p, 0, none⟩ = some (.bool s) ∧ w'.cell? ⟨p, 1, none⟩ = some (.slice a l c) ∧ Below r wb w')
  ((refine zs1 x hpr ?_; first | (refine Below.mono ?_ hrb; focus ((repeat' (first | with_reducible exact Below.refl _ _ | with_reducible assumption | with_reducible refine grow_step (by with_reducible assumption) ?_ | with_reducible refine grow_drew ?_ | with_reducible refine grow_alloc ?_ _ | with_reducible refine grow_drewN ?_ _)); done)) | (refine ((Below.mono ?_ hrb).setCell (Nat.le_refl _) _).setCell (Nat.le_refl _) _; focus ((repeat' (first | with_reducible exact Below.refl _ _ | with_reducible assumption | with_reducible refine grow_step (by with_reducible assumption) ?_ | with_reducible refine grow_drew ?_ | with_reducible refine grow_alloc ?_ _ | with_reducible refine grow_drewN ?_ _)); done))))
  (first | (go_at_call 127; refine (bare_n2 (Nm.below hn (by (repeat' (first | with_reducible exact Below.refl _ _ | with_reducible assumption | with_reducible refine grow_step (by with_reducible assumption) ?_ | with_reducible refine grow_drew ?_ | with_reducible refine grow_alloc ?_ _ | with_reducible refine grow_drewN ?_ _)))) hl).mono ?_; rintro e w' ⟨ad, len, cap, rfl, hc, hg, hl'⟩) | (go_at_call 77; refine (stand_n (Cn.below hc (by (repeat' (first | with_reducible exact Below.refl _ _ | with_reducible assumption | with_reducible refine grow_step (by with_reducible assumption) ?_ | with_reducible refine grow_drew ?_ | with_reducible refine grow_alloc ?_ _ | with_reducible refine grow_drewN ?_ _))))).mono ?_; rintro e w' ⟨s', rfl, hz, hg⟩; have y' : ZB w' r false none 0 0 := ZB.below y (by (repeat' (first | with_reducible exact Below.refl _ _ | with_reducible assumption | with_reducible refine grow_step (by with_reducible assumption) ?_ | with_reducible refine grow_drew ?_ | with_reducible refine grow_alloc ?_ _ | with_reducible refine grow_drewN ?_ _))); have y0 := y'.c0; have y1 := y'.c1; have y2 := y'.f 0; have y3 := y'.f 1))
 go_wp2
 rename_i hH
 refine bodyPost_ret (results_cell_row rfl _ _ r 24 _ (0, 0) _ rfl (zb_fin y' s' ad len cap) Tryz.underlying24 rfl (by kernel_rfl)) rfl ?_
 exact ⟨s', ad, len, cap, by simp, zb_zn y' hz _ _ _ _, hp.out.symm ▸ (b0.trans (hH.2.2.mono (Nat.le_of_lt hpr))), hl'⟩

set_option maxRecDepth 100000 in
set_option maxHeartbeats 1600000 in
theorem abs_n {s : Bool} {a : Option Addr} {l c : Nat} {z : Int} {w : World} (h : Zm w s a l c z) (hl : l ≤ 1099511627776) :
  Calls Tryz.prog 94 #[.agg #[.bool s, .slice a l c]] w fun e w' => ∃ s' ad len cap, e = .returned (.agg #[.bool s', .slice ad len cap]) ∧ Zn w' s' ad len cap (z.natAbs : Int) ∧ Below w.heap.size w w' ∧ len ≤ l + 1 := by
 obtain ⟨n, hn, rfl⟩ := h
 rw [← sg_abs (s := s) hn.nonneg]
 go_enter Tryz.func94, Tryz.ntmps94
 go_wp2_with fail
 have x := (zb_new w s a l c).below (below_alloc _ (.cells #[.bool false, .slice none 0 0] 24))
 have y := zb_new (w.alloc (.cells #[.bool s, .slice a l c] 24)) false none 0 0
 have b0 : Below w.heap.size w ((w.alloc (.cells #[.bool s, .slice a l c] 24)).alloc (.cells #[.bool false, .slice none 0 0] 24)) := below_alloc' (below_alloc _ _) _
 rw [show (w.alloc (.cells #[.bool s, .slice a l c] 24)).heap.size = w.heap.size + 1 from by simp] at y
 generalize (w.alloc (.cells #[.bool s, .slice a l c] 24)).alloc (.cells #[.bool false, .slice none 0 0] 24) = wb at *
 have hpr : w.heap.size < w.heap.size + 1 := by omega
 replace hn := hn.below b0
 generalize hp : w.heap.size = p at *
 replace hp := hide hp
 generalize p + 1 = r at *
 have hrb := Nat.le_of_lt y.lt
 have x1 := x.c1
 refine (bare_n2 hn hl).mono ?_
 rintro e w1 ⟨ad, len, cap, rfl, hc, k1, hl'⟩
 go_wp2_with fail
 refine (stand_n hc).mono ?_
 rintro e w' ⟨s', rfl, hz, hg⟩
 have y' : ZB w' r false none 0 0 := ZB.below y (by (repeat' (first | with_reducible exact Below.refl _ _ | with_reducible assumption | with_reducible refine grow_step (by with_reducible assumption) ?_ | with_reducible refine grow_drew ?_ | with_reducible refine grow_alloc ?_ _ | with_reducible refine grow_drewN ?_ _))); have y0 := y'.c0; have y1 := y'.c1; have y2 := y'.f 0; have y3 := y'.f 1
 have hB : Below p w w' := b0.trans ((grow_step hg k1).mono (Nat.le_of_lt (Nat.lt_of_lt_of_le hpr hrb)))
 go_wp2
 refine bodyPost_ret (results_cell_row rfl _ _ r 24 _ (0, 0) _ rfl (zb_fin y' s' ad len cap) Tryz.underlying24 rfl (by kernel_rfl)) rfl ?_
 exact ⟨s', ad, len, cap, by simp, zb_zn y' hz _ _ _ _, hp.out.symm ▸ (hB.setCell (Nat.le_of_lt hpr) _).setCell (Nat.le_of_lt hpr) _, hl'⟩

set_option maxRecDepth 100000 in
set_option maxHeartbeats 1600000 in
theorem zmul_n {s1 s2 : Bool} {a1 a2 : Option Addr} {l1 c1 l2 c2 : Nat} {z1 z2 : Int} {w : World} (h1 : Zm w s1 a1 l1 c1 z1) (h2 : Zm w s2 a2 l2 c2 z2) (hl1 : l1 ≤ 1099511627776) (hl2 : l2 ≤ 1099511627776) :
  Calls Tryz.prog 79 #[.agg #[.bool s1, .slice a1 l1 c1], .agg #[.bool s2, .slice a2 l2 c2]] w fun e w' => ∃ s' ad len cap, e = .returned (.agg #[.bool s', .slice ad len cap]) ∧ Zn w' s' ad len cap (z1 * z2) ∧ Below w.heap.size w w' ∧ len ≤ l1 + l2 := by
 obtain ⟨m, hm, rfl⟩ := h1
 obtain ⟨n, hn, rfl⟩ := h2
 rw [← sg_mul]
 go_enter Tryz.func79, Tryz.ntmps79
 go_wp2_with fail
 have x := (zb_new w s1 a1 l1 c1).below (below_alloc' (below_alloc _ (.cells #[.bool s2, .slice a2 l2 c2] 24)) (.cells #[.bool false, .slice none 0 0] 24))
 have x2 := (zb_new (w.alloc (.cells #[.bool s1, .slice a1 l1 c1] 24)) s2 a2 l2 c2).below (below_alloc _ (.cells #[.bool false, .slice none 0 0] 24))
 have y := zb_new ((w.alloc (.cells #[.bool s1, .slice a1 l1 c1] 24)).alloc (.cells #[.bool s2, .slice a2 l2 c2] 24)) false none 0 0
 have b0 : Below w.heap.size w (((w.alloc (.cells #[.bool s1, .slice a1 l1 c1] 24)).alloc (.cells #[.bool s2, .slice a2 l2 c2] 24)).alloc (.cells #[.bool false, .slice none 0 0] 24)) := below_alloc' (below_alloc' (below_alloc _ _) _) _
 rw [show ((w.alloc (.cells #[.bool s1, .slice a1 l1 c1] 24)).alloc (.cells #[.bool s2, .slice a2 l2 c2] 24)).heap.size = w.heap.size + 2 from by simp] at y
 rw [show (w.alloc (.cells #[.bool s1, .slice a1 l1 c1] 24)).heap.size = w.heap.size + 1 from by simp] at x2
 generalize ((w.alloc (.cells #[.bool s1, .slice a1 l1 c1] 24)).alloc (.cells #[.bool s2, .slice a2 l2 c2] 24)).alloc (.cells #[.bool false, .slice none 0 0] 24) = wb at *
 have hpr : w.heap.size < w.heap.size + 2 := by omega
 have hqr : w.heap.size + 1 < w.heap.size + 2 := by omega
 have hpq : w.heap.size < w.heap.size + 1 := by omega
 replace hm := hm.below b0
 replace hn := hn.below b0
 generalize hp : w.heap.size = p at *
 replace hp := hide hp
 generalize p + 2 = r at *
 generalize p + 1 = q at *
 have hrb := Nat.le_of_lt y.lt
 go_region_held3 (fun w' => w'.cell? ⟨p, 0, none⟩ = some (.bool s1) ∧ w'.cell? ⟨p, 1, none⟩ = some (.slice a1 l1 c1) ∧ w'.cell? ⟨q, 0, none⟩ = some (.bool s2) ∧ w'.cell? ⟨q, 1, none⟩ = some (.slice a2 l2 c2) ∧ Below r wb w')
  ((refine zs2 x x2 hpr hqr ?_; first | (refine Below.mono ?_ hrb; focus ((repeat' (first | with_reducible exact Below.refl _ _ | with_reducible assumption | with_reducible refine grow_step (by with_reducible assumption) ?_ | with_reducible refine grow_drew ?_ | with_reducible refine grow_alloc ?_ _ | with_reducible refine grow_drewN ?_ _)); done)) | (refine ((Below.mono ?_ hrb).setCell (Nat.le_refl _) _).setCell (Nat.le_refl _) _; focus ((repeat' (first | with_reducible exact Below.refl _ _ | with_reducible assumption | with_reducible refine grow_step (by with_reducible assumption) ?_ | with_reducible refine grow_drew ?_ | with_reducible refine grow_alloc ?_ _ | with_reducible refine grow_drewN ?_ _)); done))))
  (first | (go_at_call 125; refine (mul_n (Nm.below hm (by (repeat' (first | with_reducible exact Below.refl _ _ | with_reducible assumption | with_reducible refine grow_step (by with_reducible assumption) ?_ | with_reducible refine grow_drew ?_ | with_reducible refine grow_alloc ?_ _ | with_reducible refine grow_drewN ?_ _)))) (Nm.below hn (by (repeat' (first | with_reducible exact Below.refl _ _ | with_reducible assumption | with_reducible refine grow_step (by with_reducible assumption) ?_ | with_reducible refine grow_drew ?_ | with_reducible refine grow_alloc ?_ _ | with_reducible refine grow_drewN ?_ _)))) hl1 hl2).mono ?_; rintro e w' ⟨ad, len, cap, rfl, hc, hg, hl'⟩) | (go_at_call 77; refine (stand_n (Cn.below hc (by (repeat' (first | with_reducible exact Below.refl _ _ | with_reducible assumption | with_reducible refine grow_step (by with_reducible assumption) ?_ | with_reducible refine grow_drew ?_ | with_reducible refine grow_alloc ?_ _ | with_reducible refine grow_drewN ?_ _))))).mono ?_; rintro e w' ⟨s', rfl, hz, hg⟩; have y' : ZB w' r false none 0 0 := ZB.below y (by (repeat' (first | with_reducible exact Below.refl _ _ | with_reducible assumption | with_reducible refine grow_step (by with_reducible assumption) ?_ | with_reducible refine grow_drew ?_ | with_reducible refine grow_alloc ?_ _ | with_reducible refine grow_drewN ?_ _))); have y0 := y'.c0; have y1 := y'.c1; have y2 := y'.f 0; have y3 := y'.f 1))
 go_wp2

 rename_i hH
 refine bodyPost_ret (results_cell_row rfl _ _ r 24 _ (0, 0) _ rfl (zb_fin y' s' ad len cap) Tryz.underlying24 rfl (by kernel_rfl)) rfl ?_
 exact ⟨s', ad, len, cap, by simp, zb_zn y' hz _ _ _ _, hp.out.symm ▸ (b0.trans (hH.2.2.2.2.mono (Nat.le_of_lt hpr))), hl'⟩

end Go.Proofs.YtjhhknfnaobmiaaGreatDoor
