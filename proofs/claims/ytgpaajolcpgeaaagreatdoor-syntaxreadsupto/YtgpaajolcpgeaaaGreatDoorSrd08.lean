/-
 Several texts in one: Z1, Z2, ZF1, Z2P, Z3.
-/
import Derived.Test.YtgpaajolcpgeaaaGreatDoorSrd07
import Derived.Deep.RegionHeld3
namespace Go.Proofs.YtgpaajolcpgeaaaGreatDoor
open Go.RowKit

def sg (s : Bool) (n : Int) : Int := if s then -n else n
/-- a sign and a slice that say the number z -/
def Zm (w : World) (s : Bool) (ad : Option Addr) (len cap : Nat) (z : Int) : Prop := ∃ n, Nm w ad len cap n ∧ z = sg s n
theorem nm_nil (w : World) : Nm w none 0 0 0 := ⟨[], ⟨rfl, by decide, by decide, fun z hz => (by cases hz), Or.inl ⟨rfl, rfl, rfl⟩⟩, rfl⟩

/-- the block of a variable that holds a number with a sign -/
def ZB (w : World) (b : Nat) (s : Bool) (a : Option Addr) (l c : Nat) : Prop := w.heap[b]? = some (.cells #[.bool s, .slice a l c] 25 (0, 0))
theorem ZB.c0 {w : World} {b : Nat} {s : Bool} {a : Option Addr} {l c : Nat} (h : ZB w b s a l c) : w.cell? ⟨b, 0, none⟩ = some (.bool s) := cell_of_row w b 0 _ _ (0, 0) h
theorem ZB.c1 {w : World} {b : Nat} {s : Bool} {a : Option Addr} {l c : Nat} (h : ZB w b s a l c) : w.cell? ⟨b, 1, none⟩ = some (.slice a l c) := cell_of_row w b 1 _ _ (0, 0) h
theorem ZB.f {w : World} {b : Nat} {s : Bool} {a : Option Addr} {l c : Nat} (h : ZB w b s a l c) (i : Nat) : w.frozen? ⟨b, i, none⟩ = false := frozen_of_row w b i _ _ h
theorem ZB.lt {w : World} {b : Nat} {s : Bool} {a : Option Addr} {l c : Nat} (h : ZB w b s a l c) : b < w.heap.size := by
 have h' : w.heap[b]? = some _ := h
 rcases Nat.lt_or_ge b w.heap.size with hb | hb
 ·exact hb
 ·rw [Array.getElem?_eq_none hb] at h'; cases h'
theorem ZB.below {w w' : World} {b : Nat} {s : Bool} {a : Option Addr} {l c : Nat} (h : ZB w b s a l c) (hb : Below w.heap.size w w') : ZB w' b s a l c := (hb.block b h.lt).trans h
theorem zb_new (w : World) (s : Bool) (a : Option Addr) (l c : Nat) : ZB (w.alloc (.cells #[.bool s, .slice a l c] 25)) w.heap.size s a l c := heap_alloc_new w _
theorem zb_fin {w : World} {b : Nat} {s : Bool} {a : Option Addr} {l c : Nat} (h : ZB w b s a l c) (s' : Bool) (a' : Option Addr) (l' c' : Nat) :
  ZB ((w.setCell ⟨b, 0, none⟩ (.bool s')).setCell ⟨b, 1, none⟩ (.slice a' l' c')) b s' a' l' c' :=
 heap_setCell_same _ b 1 _ _ _ (heap_setCell_same w b 0 _ _ _ h)
/-- limbs don't lie in such a block -/
theorem zb_apart {w : World} {r l c : Nat} {s : Bool} {a : Option Addr} {ad : Option Addr} {len cap : Nat} {zs : List Int} (y : ZB w r s a l c) (h : Rd w ad len cap zs) :
  ∀ x off, ad = some ⟨x, off, none⟩ → len = 0 ∨ x ≠ r := by
 intro x off hx
 obtain ⟨_, _, _, _, h5⟩ := h
 rcases h5 with ⟨h5, _⟩ | ⟨a0, h5, h6⟩
 ·rw [h5] at hx; cases hx
 ·rw [hx] at h5
  injection h5 with h5
  subst h5
  rcases h6 with h6 | ⟨b, o, h6, _, h7⟩
  ·exact Or.inl h6
  ·injection h6 with e1 e2 _
   subst e1 e2
   by_cases h0 : len = 0
   ·exact Or.inl h0
   ·refine Or.inr fun e => ?_
    subst e
    have h8 := h7 0 (by omega)
    rw [Nat.add_zero, cell_of_row w x off _ _ (0, 0) y] at h8
    match off with
    | 0 => simp at h8
    | 1 => simp at h8
    | k + 2 => simp at h8
/-- variables that are read in a region that ends by writing the answer's block r -/
theorem zs1 {wb w' : World} {p r l c : Nat} {s : Bool} {a : Option Addr} (x : ZB wb p s a l c) (hp : p < r) (k : Below r wb w') :
  w'.cell? ⟨p, 0, none⟩ = some (.bool s) ∧ w'.cell? ⟨p, 1, none⟩ = some (.slice a l c) ∧ Below r wb w' :=
 ⟨ZB.c0 ((k.block p hp).trans x), ZB.c1 ((k.block p hp).trans x), k⟩
end Go.Proofs.YtgpaajolcpgeaaaGreatDoor

namespace Go.Proofs.YtgpaajolcpgeaaaGreatDoor
open Go.RowKit

set_option maxRecDepth 100000 in
set_option maxHeartbeats 1600000 in
theorem zsign_n {s : Bool} {a : Option Addr} {l c : Nat} {z : Int} {w : World} (h : Zm w s a l c z) (hl : l ≤ 1099511627776) :
  Calls Tryz.prog 46 #[.agg #[.bool s, .slice a l c]] w fun e w' => e = .returned (.int .i64 (cmpI z 0)) ∧ Below w.heap.size w w' := by
 obtain ⟨n, hn, rfl⟩ := h
 have h0 := hn.nonneg
 go_enter Tryz.func46, Tryz.ntmps46
 go_wp2_with fail
 have x := zb_new w s a l c
 have b0 := below_alloc w (.cells #[.bool s, .slice a l c] 25)
 replace hn := hn.below b0
 generalize w.alloc (.cells #[.bool s, .slice a l c] 25) = wb at *
 generalize hp : w.heap.size = p at *
 replace hp := hide hp
 refine (bits_n hn hl).mono ?_
 rintro e w1 ⟨k, rfl, hk, k1⟩
 have u0 := (x.below k1).c0
 have hB : Below p w w1 := b0.trans (k1.mono (Nat.le_of_lt x.lt))
 by_cases hz : n = 0
 ·have hk0 : k = 0 := hk.2 hz
  subst hk0
  go_wp2
  go_ret
  exact ⟨ret_int (by rw [hz, cmpI_eq (by cases s <;> simp [sg])]), hp.out.symm ▸ hB⟩
 ·have hk0 : 0 < k := Nat.pos_of_ne_zero (fun h => hz (hk.1 h))
  cases s
  ·go_wp2
   go_ret
   exact ⟨ret_int (by rw [cmpI_gt (by simp [sg]; omega)]), hp.out.symm ▸ hB⟩
  ·go_wp2
   go_ret
   exact ⟨ret_int (by rw [cmpI_lt (by simp [sg]; omega)]), hp.out.symm ▸ hB⟩

set_option maxRecDepth 100000 in
set_option maxHeartbeats 1600000 in
theorem compare_n {x y : Int} {w : World} :
  Calls Tryz.prog 125 #[.int .i64 x, .int .i64 y] w fun e w' => e = .returned (.int .i64 (cmpI x y)) ∧ Below w.heap.size w w' := by
 have isnan : ∀ (v : Int) (u : World), Calls Tryz.prog 149 #[.int .i64 v] u fun e w' => e = .returned (.bool false) ∧ w' = u := by
  intro v u
  go_enter Tryz.func149, Tryz.ntmps149
  go_wp2
  go_ret
  exact ⟨ret_bool (by simp), rfl⟩
 go_enter Tryz.func125, Tryz.ntmps125
 go_wp2_with fail
 refine (isnan x w).mono ?_
 rintro e w1 ⟨rfl, rfl⟩
 go_wp2_with fail
 refine (isnan y _).mono ?_
 rintro e w1 ⟨rfl, rfl⟩
 by_cases h1 : x < y
 ·go_wp2
  go_ret
  exact ⟨ret_int (by rw [cmpI_lt h1]), Below.refl _ _⟩
 ·by_cases h2 : y < x
  ·go_wp2
   go_ret
   exact ⟨ret_int (by rw [cmpI_gt h2]), Below.refl _ _⟩
  ·go_wp2
   go_ret
   exact ⟨ret_int (by rw [cmpI_eq (by omega)]), Below.refl _ _⟩

theorem cmpI_sg (z : Int) : -1 ≤ cmpI z 0 ∧ cmpI z 0 ≤ 1 := by unfold cmpI; split <;> (try split) <;> decide
theorem cmp_both_neg {s1 s2 : Bool} {m n v : Int} (h0 : 0 ≤ m) (h0' : 0 ≤ n) (h1 : cmpI (sg s1 m) 0 = v) (h2 : cmpI (sg s2 n) 0 = v) (hv : v < 0) : cmpI n m = cmpI (sg s1 m) (sg s2 n) := by
 unfold cmpI at *
 cases s1 <;> cases s2 <;> simp only [sg, if_true, if_false, Bool.false_eq_true] at * <;> omega
theorem cmp_both_pos {s1 s2 : Bool} {m n v : Int} (h0 : 0 ≤ m) (h0' : 0 ≤ n) (h1 : cmpI (sg s1 m) 0 = v) (h2 : cmpI (sg s2 n) 0 = v) (hv : ¬ v < 0) : cmpI m n = cmpI (sg s1 m) (sg s2 n) := by
 unfold cmpI at *
 cases s1 <;> cases s2 <;> simp only [sg, if_true, if_false, Bool.false_eq_true] at * <;> omega
theorem cmp_apart {a b v1 v2 : Int} (h1 : cmpI a 0 = v1) (h2 : cmpI b 0 = v2) (hv : v1 ≠ v2) : cmpI v1 v2 = cmpI a b := by
 unfold cmpI at *
 omega

set_option maxRecDepth 100000 in
set_option maxHeartbeats 1600000 in
theorem zcmp_n {s1 s2 : Bool} {a1 a2 : Option Addr} {l1 c1 l2 c2 : Nat} {z1 z2 : Int} {w : World} (h1 : Zm w s1 a1 l1 c1 z1) (h2 : Zm w s2 a2 l2 c2 z2) (hl1 : l1 ≤ 1099511627776) (hl2 : l2 ≤ 1099511627776) :
  Calls Tryz.prog 92 #[.agg #[.bool s1, .slice a1 l1 c1], .agg #[.bool s2, .slice a2 l2 c2]] w fun e w' => e = .returned (.int .i64 (cmpI z1 z2)) ∧ Below w.heap.size w w' := by
 obtain ⟨m, hm, rfl⟩ := h1
 obtain ⟨n, hn, rfl⟩ := h2
 have h0 := hm.nonneg
 have h0' := hn.nonneg
 go_enter Tryz.func92, Tryz.ntmps92
 go_wp2_with fail
 have x := (zb_new w s1 a1 l1 c1).below (below_alloc _ (.cells #[.bool s2, .slice a2 l2 c2] 25))
 have x2 := zb_new (w.alloc (.cells #[.bool s1, .slice a1 l1 c1] 25)) s2 a2 l2 c2
 have b0 : Below w.heap.size w ((w.alloc (.cells #[.bool s1, .slice a1 l1 c1] 25)).alloc (.cells #[.bool s2, .slice a2 l2 c2] 25)) := below_alloc' (below_alloc _ _) _
 rw [show (w.alloc (.cells #[.bool s1, .slice a1 l1 c1] 25)).heap.size = w.heap.size + 1 from by simp] at x2
 replace hm := hm.below b0
 replace hn := hn.below b0
 generalize (w.alloc (.cells #[.bool s1, .slice a1 l1 c1] 25)).alloc (.cells #[.bool s2, .slice a2 l2 c2] 25) = wb at *
 generalize hp : w.heap.size = p at *
 replace hp := hide hp
 generalize p + 1 = q at *
 have hpb := Nat.le_of_lt x.lt
 refine (zsign_n ⟨m, hm, rfl⟩ hl1).mono ?_
 rintro e w1 ⟨rfl, k1⟩
 have u2 := (x2.below k1).c0
 have u3 := (x2.below k1).c1
 go_wp2_with fail
 refine (zsign_n ⟨n, hn.below k1, rfl⟩ hl2).mono ?_
 rintro e w2 ⟨rfl, k2⟩
 replace k2 := grow_step k2 k1
 clear u2 u3 k1
 go_wp2_with fail
 refine (compare_n (x := cmpI (sg s1 m) 0) (y := cmpI (sg s2 n) 0)).mono ?_
 rintro e w3 ⟨rfl, k3⟩
 replace k3 := grow_step k3 k2
 clear k2
 have u1 := (x.below k3).c1
 have u3 := (x2.below k3).c1
 replace hm := hm.below k3
 replace hn := hn.below k3
 replace b0 : Below p w w3 := b0.trans (k3.mono hpb)
 have hc1 := cmpI_sg (sg s1 m)
 have hc2 := cmpI_sg (sg s2 n)
 generalize hv1 : cmpI (sg s1 m) 0 = v1 at *
 generalize hv2 : cmpI (sg s2 n) 0 = v2 at *
 replace hv1 := hide hv1
 replace hv2 := hide hv2
 by_cases he : v1 = v2
 ·have e0 : cmpI v1 v2 = 0 := cmpI_eq he
  rw [e0]
  by_cases hneg : v1 < 0
  ·go_wp2_with fail
   refine (cmp_n hn hm).mono ?_
   rintro e w4 ⟨rfl, k4⟩
   go_wp2
   go_ret
   exact ⟨ret_int (cmp_both_neg h0 h0' (unhide hv1) (he ▸ unhide hv2) hneg), hp.out.symm ▸ b0.trans (k4.mono (Nat.le_trans hpb k3.size))⟩
  ·go_wp2_with fail
   refine (cmp_n hm hn).mono ?_
   rintro e w4 ⟨rfl, k4⟩
   go_wp2
   go_ret
   exact ⟨ret_int (cmp_both_pos h0 h0' (unhide hv1) (he ▸ unhide hv2) (by omega)), hp.out.symm ▸ b0.trans (k4.mono (Nat.le_trans hpb k3.size))⟩
 ·have e1 : cmpI v1 v2 ≠ 0 := by unfold cmpI; split <;> (try split) <;> omega
  have e2 := hide (cmp_apart (unhide hv1) (unhide hv2) he)
  generalize cmpI v1 v2 = v3 at *
  go_wp2
  go_ret
  exact ⟨ret_int (unhide e2), hp.out.symm ▸ b0⟩

end Go.Proofs.YtgpaajolcpgeaaaGreatDoor

namespace Go.Proofs.YtgpaajolcpgeaaaGreatDoor.Fresh
open Go.RowKit

/-- a row of limbs of its own at block B or later, or nothing -/
def Fr (B : Nat) (w : World) (ad : Option Addr) (cap : Nat) : Prop := (ad = none ∧ cap = 0) ∨ ∃ b xs, ad = some ⟨b, 0, none⟩ ∧ B ≤ b ∧ Row w b xs ∧ xs.length = cap ∧ cap ≤ 9223372036854775807
theorem row_lt {w : World} {b : Nat} {xs : List Int} (h : Row w b xs) : b < w.heap.size := (Array.getElem?_eq_some_iff.1 h).1
theorem Fr.below {B : Nat} {w w' : World} {ad : Option Addr} {cap : Nat} (h : Fr B w ad cap) (hb : Below w.heap.size w w') : Fr B w' ad cap := by
 rcases h with h | ⟨b, xs, h1, h2, h3, h4⟩
 ·exact .inl h
 ·exact .inr ⟨b, xs, h1, h2, (hb.block b (row_lt h3)).trans h3, h4⟩
theorem Fr.only {B : Nat} {w w' : World} {ad : Option Addr} {cap r l c : Nat} {s : Bool} {a : Option Addr} (h : Fr B w ad cap) (y : ZB w r s a l c) (ho : Only r w w') : Fr B w' ad cap := by
 rcases h with h | ⟨b, xs, h1, h2, h3, h4⟩
 ·exact .inl h
 ·refine .inr ⟨b, xs, h1, h2, (ho.block b (fun e => ?_)).trans h3, h4⟩
  subst e
  have e := Option.some.inj ((show w.heap[b]? = _ from y).symm.trans h3)
  injection e with _ e
  exact absurd e (by decide)
def Nm (B : Nat) (w : World) (ad : Option Addr) (len cap : Nat) (n : Int) : Prop := Go.Proofs.YtgpaajolcpgeaaaGreatDoor.Nm w ad len cap n ∧ B ≤ w.heap.size
def Cn (B : Nat) (w : World) (ad : Option Addr) (len cap : Nat) (n : Int) : Prop := Go.Proofs.YtgpaajolcpgeaaaGreatDoor.Cn w ad len cap n ∧ B ≤ w.heap.size ∧ Fr B w ad cap
theorem Nm.below {B : Nat} {w w' : World} {ad : Option Addr} {len cap : Nat} {n : Int} (h : Nm B w ad len cap n) (hb : Below w.heap.size w w') : Nm B w' ad len cap n := ⟨h.1.below hb, Nat.le_trans h.2 hb.size⟩
theorem Cn.below {B : Nat} {w w' : World} {ad : Option Addr} {len cap : Nat} {n : Int} (h : Cn B w ad len cap n) (hb : Below w.heap.size w w') : Cn B w' ad len cap n := ⟨h.1.below hb, Nat.le_trans h.2.1 hb.size, h.2.2.below hb⟩
theorem Cn.len {B : Nat} {w : World} {ad : Option Addr} {len cap : Nat} {n : Int} (h : Cn B w ad len cap n) : n = 0 ↔ len = 0 := h.1.len
theorem out_cn {B : Nat} {w w' : World} {ad : Option Addr} {len cap : Nat} {zs : List Int} {n : Int} (hB : B ≤ w.heap.size) (h : Out w w' ad len cap zs) (hc : Canon zs) (hv : val zs = n) : Cn B w' ad len cap n := by
 refine ⟨Go.Proofs.YtgpaajolcpgeaaaGreatDoor.out_cn h hc hv, Nat.le_trans hB h.1.size, ?_⟩
 obtain ⟨_, ⟨rfl, _, rfl, _⟩ | ⟨b, xs, rfl, hb, hr, _, hn, _, hm, _⟩⟩ := h
 ·exact .inl ⟨rfl, rfl⟩
 ·exact .inr ⟨b, xs, rfl, Nat.le_trans hB hb, hr, hn, hm⟩
theorem nm_nil {B : Nat} {w : World} (hB : B ≤ w.heap.size) : Nm B w none 0 0 0 := ⟨Go.Proofs.YtgpaajolcpgeaaaGreatDoor.nm_nil w, hB⟩

theorem add_n {B : Nat} {a1 a2 : Option Addr} {l1 c1 l2 c2 : Nat} {m n : Int} {w : World} (h1 : Nm B w a1 l1 c1 m) (h2 : Nm B w a2 l2 c2 n) (hl1 : l1 ≤ 1099511627776) (hl2 : l2 ≤ 1099511627776) :
  Calls Tryz.prog 150 #[.slice a1 l1 c1, .slice a2 l2 c2] w fun e w' => ∃ ad len cap, e = .returned (.slice ad len cap) ∧ Cn B w' ad len cap (m + n) ∧ Below w.heap.size w w' ∧ len ≤ max l1 l2 + 1 := by
 obtain ⟨⟨xs, h1, rfl⟩, hB⟩ := h1
 obtain ⟨⟨ys, h2, rfl⟩, _⟩ := h2
 refine (add_any h1 h2 hl1 hl2).mono ?_
 rintro e w' ⟨ad, len, cap, zs, rfl, ho, hc, hv, hl⟩
 exact ⟨ad, len, cap, rfl, out_cn hB ho hc hv, ho.1, hl⟩
def Zm (B : Nat) (w : World) (s : Bool) (ad : Option Addr) (len cap : Nat) (z : Int) : Prop := ∃ n, Nm B w ad len cap n ∧ z = sg s n
def Zn (B : Nat) (w : World) (s : Bool) (ad : Option Addr) (len cap : Nat) (z : Int) : Prop := ∃ n, Cn B w ad len cap n ∧ z = sg s n ∧ (s = true → n ≠ 0)
theorem zm_of {B : Nat} {w : World} {s : Bool} {ad : Option Addr} {len cap : Nat} {z : Int} (h : Go.Proofs.YtgpaajolcpgeaaaGreatDoor.Zm w s ad len cap z) (hB : B ≤ w.heap.size) : Zm B w s ad len cap z := by
 obtain ⟨n, h1, h2⟩ := h
 exact ⟨n, ⟨h1, hB⟩, h2⟩
theorem zb_cn {B : Nat} {w w' : World} {r l c : Nat} {s : Bool} {a : Option Addr} {ad : Option Addr} {len cap : Nat} {n : Int} (y : ZB w r s a l c) (ho : Only r w w') (h : Cn B w ad len cap n) : Cn B w' ad len cap n := by
 obtain ⟨⟨zs, h1, h2, h3⟩, h4, h5⟩ := h
 exact ⟨⟨zs, h1.only ho (zb_apart y h1), h2, h3⟩, Nat.le_trans h4 (Nat.le_of_eq ho.size.symm), h5.only y ho⟩
theorem zb_zn {B : Nat} {w : World} {r l c : Nat} {s : Bool} {a : Option Addr} {s1 : Bool} {ad : Option Addr} {len cap : Nat} {z : Int} (y : ZB w r s a l c) (h : Zn B w s1 ad len cap z) (s' : Bool) (a' : Option Addr) (l' c' : Nat) :
  Zn B ((w.setCell ⟨r, 0, none⟩ (.bool s')).setCell ⟨r, 1, none⟩ (.slice a' l' c')) s1 ad len cap z := by
 obtain ⟨n, h1, h4⟩ := h
 exact ⟨n, zb_cn y ((Only.set r 0 w _).trans (Only.set r 1 _ _)) h1, h4⟩
theorem bare_n2 {B : Nat} {a : Option Addr} {l c : Nat} {n : Int} {w : World} (h : Nm B w a l c n) (hl : l ≤ 1099511627776) :
  Calls Tryz.prog 129 #[.slice a l c] w fun e w' => ∃ ad len cap, e = .returned (.slice ad len cap) ∧ Cn B w' ad len cap n ∧ Below w.heap.size w w' ∧ len ≤ l + 1 := by
 go_enter Tryz.func129, Tryz.ntmps129
 go_wp2_with fail
 refine (add_n h (nm_nil h.2) hl (by decide)).mono ?_
 rintro e w' ⟨ad, len, cap, rfl, hc, hb, hl'⟩
 go_wp2
 go_ret
 exact ⟨ad, len, cap, rfl, by simpa using hc, hb, by omega⟩
theorem stand_n {B : Nat} {s : Bool} {a : Option Addr} {l c : Nat} {n : Int} {w : World} (h : Cn B w a l c n) :
  Calls Tryz.prog 128 #[.bool s, .slice a l c] w fun e w' => ∃ s', e = .returned (.agg #[.bool s', .slice a l c]) ∧ Zn B w' s' a l c (sg s n) ∧ Below w.heap.size w w' := by
 have hn := h.len
 go_enter Tryz.func128, Tryz.ntmps128
 cases s
 ·go_wp2
  refine bodyPost_ret (results_cell_row rfl _ _ w.heap.size 25 _ (0, 0) _ rfl (zb_new w _ _ _ _) Tryz.underlying25 rfl (by kernel_rfl)) rfl ?_
  exact ⟨false, by simp, ⟨n, h.below (below_alloc _ _), rfl, fun h => by cases h⟩, below_alloc _ _⟩
 ·go_wp2
  refine bodyPost_ret (results_cell_row rfl _ _ w.heap.size 25 _ (0, 0) _ rfl (zb_new w _ _ _ _) Tryz.underlying25 rfl (by kernel_rfl)) rfl ?_
  refine ⟨decide (0 < l), by simp, ⟨n, h.below (below_alloc _ _), ?_, fun h => ?_⟩, below_alloc _ _⟩
  ·by_cases h0 : 0 < l
   ·simp [h0]
   ·have : n = 0 := hn.2 (by omega)
    simp [sg, this]
  ·have h0 : 0 < l := of_decide_eq_true h
   intro h1; have := hn.1 h1; omega
set_option maxRecDepth 100000 in
set_option maxHeartbeats 1600000 in
theorem norm_n {B : Nat} {s : Bool} {a : Option Addr} {l c : Nat} {z : Int} {w : World} (h : Zm B w s a l c z) (hl : l ≤ 1099511627776) :
  Calls Tryz.prog 95 #[.agg #[.bool s, .slice a l c]] w fun e w' => ∃ s' ad len cap, e = .returned (.agg #[.bool s', .slice ad len cap]) ∧ Zn B w' s' ad len cap z ∧ Below w.heap.size w w' ∧ len ≤ l + 1 := by
 obtain ⟨n, hn, rfl⟩ := h
 go_enter Tryz.func95, Tryz.ntmps95
 go_wp2_with fail
 have x := (zb_new w s a l c).below (below_alloc _ (.cells #[.bool false, .slice none 0 0] 25))
 have y := zb_new (w.alloc (.cells #[.bool s, .slice a l c] 25)) false none 0 0
 have b0 : Below w.heap.size w ((w.alloc (.cells #[.bool s, .slice a l c] 25)).alloc (.cells #[.bool false, .slice none 0 0] 25)) := below_alloc' (below_alloc _ _) _
 rw [show (w.alloc (.cells #[.bool s, .slice a l c] 25)).heap.size = w.heap.size + 1 from by simp] at y
 generalize (w.alloc (.cells #[.bool s, .slice a l c] 25)).alloc (.cells #[.bool false, .slice none 0 0] 25) = wb at *
 have hpr : w.heap.size < w.heap.size + 1 := by omega
 replace hn := hn.below b0
 generalize hp : w.heap.size = p at *
 replace hp := hide hp
 generalize p + 1 = r at *
 have hrb := Nat.le_of_lt y.lt
 go_region_held3 (fun w' => w'.cell? ⟨p, 0, none⟩ = some (.bool s) ∧ w'.cell? ⟨p, 1, none⟩ = some (.slice a l c) ∧ Below r wb w')
  ((refine zs1 x hpr ?_; first | (refine Below.mono ?_ hrb; focus ((repeat' (first | with_reducible exact Below.refl _ _ | with_reducible assumption | with_reducible refine grow_step (by with_reducible assumption) ?_ | with_reducible refine grow_drew ?_ | with_reducible refine grow_alloc ?_ _ | with_reducible refine grow_drewN ?_ _)); done)) | (refine ((Below.mono ?_ hrb).setCell (Nat.le_refl _) _).setCell (Nat.le_refl _) _; focus ((repeat' (first | with_reducible exact Below.refl _ _ | with_reducible assumption | with_reducible refine grow_step (by with_reducible assumption) ?_ | with_reducible refine grow_drew ?_ | with_reducible refine grow_alloc ?_ _ | with_reducible refine grow_drewN ?_ _)); done))))
  (first | (go_at_call 129; refine (bare_n2 (Nm.below hn (by (repeat' (first | with_reducible exact Below.refl _ _ | with_reducible assumption | with_reducible refine grow_step (by with_reducible assumption) ?_ | with_reducible refine grow_drew ?_ | with_reducible refine grow_alloc ?_ _ | with_reducible refine grow_drewN ?_ _)))) hl).mono ?_; rintro e w' ⟨ad, len, cap, rfl, hc, hg, hl'⟩) | (go_at_call 128; refine (stand_n (Cn.below hc (by (repeat' (first | with_reducible exact Below.refl _ _ | with_reducible assumption | with_reducible refine grow_step (by with_reducible assumption) ?_ | with_reducible refine grow_drew ?_ | with_reducible refine grow_alloc ?_ _ | with_reducible refine grow_drewN ?_ _))))).mono ?_; rintro e w' ⟨s', rfl, hz, hg⟩; have y' : ZB w' r false none 0 0 := ZB.below y (by (repeat' (first | with_reducible exact Below.refl _ _ | with_reducible assumption | with_reducible refine grow_step (by with_reducible assumption) ?_ | with_reducible refine grow_drew ?_ | with_reducible refine grow_alloc ?_ _ | with_reducible refine grow_drewN ?_ _))); have y0 := y'.c0; have y1 := y'.c1; have y2 := y'.f 0; have y3 := y'.f 1))
 go_wp2
 rename_i hH
 refine bodyPost_ret (results_cell_row rfl _ _ r 25 _ (0, 0) _ rfl (zb_fin y' s' ad len cap) Tryz.underlying25 rfl (by kernel_rfl)) rfl ?_
 exact ⟨s', ad, len, cap, by simp, zb_zn y' hz _ _ _ _, hp.out.symm ▸ (b0.trans (hH.2.2.mono (Nat.le_of_lt hpr))), hl'⟩
end Go.Proofs.YtgpaajolcpgeaaaGreatDoor.Fresh

namespace Go.Proofs.YtgpaajolcpgeaaaGreatDoor
open Go.RowKit

end Go.Proofs.YtgpaajolcpgeaaaGreatDoor

namespace Go.Proofs.YtgpaajolcpgeaaaGreatDoor
open Go.RowKit

end Go.Proofs.YtgpaajolcpgeaaaGreatDoor
