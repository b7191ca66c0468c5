/-
 Several texts in one: LCensusFinds, Pf5, LCensusEnds.
-/
import Derived.Test.YtmiannlcfommpaaGreatCen21
import Derived.Test.YtmiannlcfommpaaGreatCen09
import Derived.Test.YtmiannlcfommpaaGreatCen20
import Derived.Lib.BufferMore
namespace Go.Proofs.YtmiannlcfommpaaGreat
open Go.RowKit Go.Sort
namespace Pd

theorem fst_z {v w : World} {b : Nat} {s : Bool} {a : Option Addr} {l c : Nat} (k : Below v.heap.size v w) (hb : v.heap.size ≤ b) (h : ZB w b s a l c) (s' : Bool) (a' : Option Addr) (l' c' : Nat) : ∃ w8, Hid ((w.setCell ⟨b, 0, none⟩ (.bool s')).setCell ⟨b, 1, none⟩ (.slice a' l' c') = w8) ∧ ZB w8 b s' a' l' c' ∧ Below v.heap.size v w8 ∧ (∀ s1 ad len cap z, Zn w s1 ad len cap z → Zn w8 s1 ad len cap z) ∧ ∀ b2 s2 a2 l2 c2, b2 ≠ b → ZB w b2 s2 a2 l2 c2 → ZB w8 b2 s2 a2 l2 c2 :=
 ⟨_, rfl, zb_fin h s' a' l' c', (k.setCell (p := ⟨b, 0, none⟩) hb (.bool s')).setCell (p := ⟨b, 1, none⟩) hb (.slice a' l' c'), fun _ _ _ _ _ hz => zb_zn h hz _ _ _ _, fun _ _ _ _ _ hne hz => hz.only (only2 _ _ _ _) hne⟩
/-- what Next and Last answer, in one form -/
def Nx (w' : World) (f : Int → Bool) (x d : Int) (B : Nat) (z : ZV) (b : Bool) : Prop :=
 (b = true → ∃ v, d * x ≤ d * v ∧ (∀ u, d * x ≤ d * u → d * u < d * v → f u = false) ∧ f v = true ∧ Zn w' z.s z.a z.l z.c v ∧ z.l ≤ B) ∧ (b = false → ∀ u, d * x ≤ d * u → f u = false)
theorem nx_one {w' : World} {en : Ending} {f : Int → Bool} {x d : Int} {B : Nat} (h : Nst w' en f x d B) : ∃ (z : ZV) (b : Bool), en = .returned (.tuple #[.agg #[.bool z.s, .slice z.a z.l z.c], .bool b]) ∧ Nx w' f x d B z b := by
 rcases h with ⟨v, z, h1, h2, h3, h4, h5, h6⟩ | ⟨h1, h2⟩
 ·exact ⟨z, true, h4, ⟨fun _ => ⟨v, h1, h2, h3, h5, h6⟩, fun e => (by cases e)⟩⟩
 ·exact ⟨⟨false, none, 0, 0⟩, false, h2, ⟨fun e => (by cases e), fun _ => h1⟩⟩
end Pd
end Go.Proofs.YtmiannlcfommpaaGreat

namespace Go.Proofs.YtmiannlcfommpaaGreat
open Go.RowKit Go.Sort
namespace Pd

/-- no member at one place or below it, nor at the other one or above it -/
def Fin (f : Int → Bool) (lo hi : Int) : Prop := (∀ u, u ≤ lo → f u = false) ∧ ∀ u, hi ≤ u → f u = false
/-- what Finite answers -/
def FiO (D : PD) (w' : World) (z : ZV) (b : Bool) : Prop := (b = true → ∃ lo hi, Ed D lo hi ∧ Fin (mem D) lo hi ∧ Zn w' z.s z.a z.l z.c (cntI (mem D) lo hi : Nat)) ∧ (b = false → z = ⟨false, none, 0, 0⟩)
/-- what Least answers -/
def LeO (D : PD) (w' : World) (z : ZV) (b : Bool) : Prop := (b = true → ∃ v, (∀ u, u < v → mem D u = false) ∧ mem D v = true ∧ Zn w' z.s z.a z.l z.c v ∧ z.l ≤ 8589942784) ∧ (b = false → ∃ lo hi, Ed D lo hi ∧ ((∃ v, v ≤ lo ∧ mem D v = true) ∨ ∀ u, mem D u = false))
set_option maxRecDepth 100000 in
set_option maxHeartbeats 6400000 in
theorem Finite_n {w : World} {bS : Nat} {D : PD} (hS : PS w bS D) (hf : D.cs.length ≤ 1073741823) :
  Calls Tryz.prog 33 #[.pointer (some ⟨bS, 0, none⟩)] w fun e w' => ∃ (z : ZV) (b : Bool), e = .returned (.tuple #[.agg #[.bool z.s, .slice z.a z.l z.c], .bool b]) ∧ FiO D w' z b ∧ Below w.heap.size w w' := by
 have b0 := below_alloc w (.cells #[.bool false, .slice none 0 0] 38)
 have y2 := hide (zb_new w false none 0 0)
 replace hS := hide (hS.below b0)
 replace b0 := hide b0
 go_enter Tryz.func33, Tryz.ntmps33
 go_upto_region 1 with (fail)
 generalize w.alloc (.cells #[.bool false, .slice none 0 0] 38) = w0 at *
 obtain ⟨b, hb⟩ : ∃ b, w.heap.size = b := ⟨_, rfl⟩
 rw [hb] at y2 ⊢
 replace hb := hide hb
 have hen := hide (ends_n hS.out hf)
 go_wp2_with fail
 refine hen.out.mono ?_
 rintro e w1 ⟨zl, zh, lo, hi, rfl, hed, hzl, hll, hzh, hhl, kN⟩
 have bl := below_alloc w1 (.cells #[.bool zl.s, .slice zl.a zl.l zl.c] 38)
 have bh := below_alloc (w1.alloc (.cells #[.bool zl.s, .slice zl.a zl.l zl.c] 38)) (.cells #[.bool zh.s, .slice zh.a zh.l zh.c] 38)
 have yl := hide ((zb_new w1 zl.s zl.a zl.l zl.c).below bh)
 have yh := zb_new (w1.alloc (.cells #[.bool zl.s, .slice zl.a zl.l zl.c] 38)) zh.s zh.a zh.l zh.c
 rw [show (w1.alloc (.cells #[.bool zl.s, .slice zl.a zl.l zl.c] 38)).heap.size = w1.heap.size + 1 by simp] at yh
 replace yh := hide yh
 have kA := grow_step bh bl
 replace hzl := hide (hzl.below kA)
 replace hzh := hide (hzh.below kA)
 replace hed := hide hed
 have pD := hide ((hS.out.below kN).below kA)
 replace y2 := hide ((y2.out.below kN).below kA)
 have kw := hide (grow_step kA (grow_step kN b0.out))
 clear hen kA bl bh hS b0 kN
 go_upto_region 4 with (fail)
 generalize (w1.alloc (.cells #[.bool zl.s, .slice zl.a zl.l zl.c] 38)).alloc (.cells #[.bool zh.s, .slice zh.a zh.l zh.c] 38) = w2 at *
 obtain ⟨bl, hbl⟩ : ∃ c, w1.heap.size = c := ⟨_, rfl⟩
 rw [hbl] at yl yh ⊢
 clear hbl
 have hla := hide (last_n (LL := 8589934592) pD.out hf hzl.out.zm (by omega) (by omega) (by omega))
 have c0 := yl.out.c0
 have c1 := yl.out.c1
 go_wp2_with fail
 refine hla.out.mono ?_
 rintro e w3 ⟨kN, hN⟩
 obtain ⟨z2, b2, he, hXb2⟩ := nx_one hN
 clear hN
 subst he
 have kA := grow_step (below_alloc w3 (.cells #[.bool z2.s, .slice z2.a z2.l z2.c] 38)) kN
 replace hzl := hide (hzl.out.below kA)
 replace hzh := hide (hzh.out.below kA)
 replace pD := hide (pD.out.below kA)
 replace y2 := hide (y2.out.below kA)
 replace yl := hide (yl.out.below kA)
 replace yh := hide (yh.out.below kA)
 replace kw := hide (grow_step kA kw.out)
 clear hla kA kN c0 c1
 go_upto_if 26 with (fail)
 generalize w3.alloc (.cells #[.bool z2.s, .slice z2.a z2.l z2.c] 38) = w4 at *
 cases b2 with
 | true =>
  have f0 := y2.out.c0
  have f1 := y2.out.c1
  have f2 := y2.out.f 0
  have f3 := y2.out.f 1
  obtain ⟨w8, e8, y8, k8, -, hzn⟩ := est_z kw.out (Nat.le_of_eq hb.out) y2.out false none 0 0
  replace y8 := hide y8
  replace k8 := hide k8
  clear hzn
  go_wp2
  rw [e8.out]
  exact bodyPost_ret (results_ct rfl _ _ b 38 _ (0, 0) _ rfl y8.out Tryz.underlying38 rfl (by kernel_rfl)) rfl ⟨⟨false, none, 0, 0⟩, false, rfl, ⟨fun e => (by cases e), fun _ => rfl⟩, k8.out⟩
 | false =>
  have hv1 := hXb2.2 rfl
  clear hXb2
  have hla := hide (next_n (LL := 8589934592) pD.out hf hzh.out.zm (by omega) (by omega) (by omega))
  have c0 := yh.out.c0
  have c1 := yh.out.c1
  go_wp2_with fail
  refine hla.out.mono ?_
  rintro e w5 ⟨kN, hN⟩
  obtain ⟨z3, b3, he, hXb3⟩ := nx_one hN
  clear hN
  subst he
  have kA := grow_step (below_alloc w5 (.cells #[.bool z3.s, .slice z3.a z3.l z3.c] 38)) kN
  replace hzl := hide (hzl.out.below kA)
  replace hzh := hide (hzh.out.below kA)
  replace pD := hide (pD.out.below kA)
  replace y2 := hide (y2.out.below kA)
  replace yl := hide (yl.out.below kA)
  replace yh := hide (yh.out.below kA)
  replace kw := hide (grow_step kA kw.out)
  clear hla kA kN c0 c1
  go_upto_if 34 with (fail)
  generalize w5.alloc (.cells #[.bool z3.s, .slice z3.a z3.l z3.c] 38) = w6 at *
  cases b3 with
  | true =>
   have f0 := y2.out.c0
   have f1 := y2.out.c1
   have f2 := y2.out.f 0
   have f3 := y2.out.f 1
   obtain ⟨w8, e8, y8, k8, -, hzn⟩ := est_z kw.out (Nat.le_of_eq hb.out) y2.out false none 0 0
   replace y8 := hide y8
   replace k8 := hide k8
   clear hzn
   go_wp2
   rw [e8.out]
   exact bodyPost_ret (results_ct rfl _ _ b 38 _ (0, 0) _ rfl y8.out Tryz.underlying38 rfl (by kernel_rfl)) rfl ⟨⟨false, none, 0, 0⟩, false, rfl, ⟨fun e => (by cases e), fun _ => rfl⟩, k8.out⟩
  | false =>
   have hv2 := hXb3.2 rfl
   clear hXb3
   have hco := hide (Count_n pD.out hf hzl.out.zm (by omega) hzh.out.zm (by omega))
   have c0 := yl.out.c0
   have c1 := yl.out.c1
   have c2 := yh.out.c0
   have c3 := yh.out.c1
   go_wp2_with fail
   refine hco.out.mono ?_
   rintro e w7 ⟨zk, rfl, hzk, hkl, kN⟩
   have kA := grow_step (below_alloc w7 (.cells #[.bool zk.s, .slice zk.a zk.l zk.c] 38)) kN
   replace hzk := hide (hzk.below (below_alloc w7 (.cells #[.bool zk.s, .slice zk.a zk.l zk.c] 38)))
   have yk := hide (zb_new w7 zk.s zk.a zk.l zk.c)
   replace y2 := hide (y2.out.below kA)
   replace kw := hide (grow_step kA kw.out)
   clear hco kA kN c0 c1 c2 c3 yl yh hzl hzh pD
   go_upto_region 11 with (fail)
   generalize w7.alloc (.cells #[.bool zk.s, .slice zk.a zk.l zk.c] 38) = w9 at *
   have c0 := yk.out.c0
   have c1 := yk.out.c1
   have hfin : Hid (Fin (mem D) lo hi) := hide ⟨fun u hu => hv1 u (by omega), fun u hu => hv2 u (by omega)⟩
   clear hv1 hv2
   have f0 := y2.out.c0
   have f1 := y2.out.c1
   have f2 := y2.out.f 0
   have f3 := y2.out.f 1
   obtain ⟨w8, e8, y8, k8, -, hzn⟩ := est_z kw.out (Nat.le_of_eq hb.out) y2.out zk.s zk.a zk.l zk.c
   have hzk8 := hide (hzn _ _ _ _ _ hzk.out)
   replace y8 := hide y8
   replace k8 := hide k8
   clear hzn
   go_wp2
   rw [e8.out]
   exact bodyPost_ret (results_ct rfl _ _ b 38 _ (0, 0) _ rfl y8.out Tryz.underlying38 rfl (by kernel_rfl)) rfl ⟨zk, true, rfl, ⟨fun _ => ⟨lo, hi, hed.out, hfin.out, hzk8.out⟩, fun e => (by cases e)⟩, k8.out⟩
set_option maxRecDepth 100000 in
set_option maxHeartbeats 6400000 in
theorem Least_n {w : World} {bS : Nat} {D : PD} (hS : PS w bS D) (hf : D.cs.length ≤ 1073741823) :
  Calls Tryz.prog 31 #[.pointer (some ⟨bS, 0, none⟩)] w fun e w' => ∃ (z : ZV) (b : Bool), e = .returned (.tuple #[.agg #[.bool z.s, .slice z.a z.l z.c], .bool b]) ∧ LeO D w' z b ∧ Below w.heap.size w w' := by
 have b0 := below_alloc w (.cells #[.bool false, .slice none 0 0] 38)
 have y2 := hide (zb_new w false none 0 0)
 replace hS := hide (hS.below b0)
 replace b0 := hide b0
 go_enter Tryz.func31, Tryz.ntmps31
 go_upto_region 1 with (fail)
 generalize w.alloc (.cells #[.bool false, .slice none 0 0] 38) = w0 at *
 obtain ⟨b, hb⟩ : ∃ b, w.heap.size = b := ⟨_, rfl⟩
 rw [hb] at y2 ⊢
 replace hb := hide hb
 have hen := hide (ends_n hS.out hf)
 go_wp2_with fail
 refine hen.out.mono ?_
 rintro e w1 ⟨zl, zh, lo, hi, rfl, hed, hzl, hll, hzh, hhl, kN⟩
 have bl := below_alloc w1 (.cells #[.bool zl.s, .slice zl.a zl.l zl.c] 38)
 have bh := below_alloc (w1.alloc (.cells #[.bool zl.s, .slice zl.a zl.l zl.c] 38)) (.cells #[.bool zh.s, .slice zh.a zh.l zh.c] 38)
 have yl := hide ((zb_new w1 zl.s zl.a zl.l zl.c).below bh)
 have yh := zb_new (w1.alloc (.cells #[.bool zl.s, .slice zl.a zl.l zl.c] 38)) zh.s zh.a zh.l zh.c
 rw [show (w1.alloc (.cells #[.bool zl.s, .slice zl.a zl.l zl.c] 38)).heap.size = w1.heap.size + 1 by simp] at yh
 replace yh := hide yh
 have kA := grow_step bh bl
 replace hzl := hide (hzl.below kA)
 replace hzh := hide (hzh.below kA)
 replace hed := hide hed
 have pD := hide ((hS.out.below kN).below kA)
 replace y2 := hide ((y2.out.below kN).below kA)
 have kw := hide (grow_step kA (grow_step kN b0.out))
 clear hen kA bl bh hS b0 kN
 go_upto_region 4 with (fail)
 generalize (w1.alloc (.cells #[.bool zl.s, .slice zl.a zl.l zl.c] 38)).alloc (.cells #[.bool zh.s, .slice zh.a zh.l zh.c] 38) = w2 at *
 obtain ⟨bl, hbl⟩ : ∃ c, w1.heap.size = c := ⟨_, rfl⟩
 rw [hbl] at yl yh ⊢
 clear hbl
 have hla := hide (last_n (LL := 8589934592) pD.out hf hzl.out.zm (by omega) (by omega) (by omega))
 have c0 := yl.out.c0
 have c1 := yl.out.c1
 go_wp2_with fail
 refine hla.out.mono ?_
 rintro e w3 ⟨kN, hN⟩
 obtain ⟨z2, b2, he, hXb2⟩ := nx_one hN
 clear hN
 subst he
 have kA := grow_step (below_alloc w3 (.cells #[.bool z2.s, .slice z2.a z2.l z2.c] 38)) kN
 replace hzl := hide (hzl.out.below kA)
 replace hzh := hide (hzh.out.below kA)
 replace pD := hide (pD.out.below kA)
 replace y2 := hide (y2.out.below kA)
 replace yl := hide (yl.out.below kA)
 replace yh := hide (yh.out.below kA)
 replace kw := hide (grow_step kA kw.out)
 clear hla kA kN c0 c1
 go_upto_if 22 with (fail)
 generalize w3.alloc (.cells #[.bool z2.s, .slice z2.a z2.l z2.c] 38) = w4 at *
 cases b2 with
 | true =>
  obtain ⟨v, hv1, -, hv3, -, -⟩ := hXb2.1 rfl
  have hle : v ≤ lo := by omega
  clear hXb2 hv1
  have f0 := y2.out.c0
  have f1 := y2.out.c1
  have f2 := y2.out.f 0
  have f3 := y2.out.f 1
  obtain ⟨w8, e8, y8, k8, -, hzn⟩ := est_z kw.out (Nat.le_of_eq hb.out) y2.out false none 0 0
  replace y8 := hide y8
  replace k8 := hide k8
  clear hzn
  go_wp2
  rw [e8.out]
  exact bodyPost_ret (results_ct rfl _ _ b 38 _ (0, 0) _ rfl y8.out Tryz.underlying38 rfl (by kernel_rfl)) rfl ⟨⟨false, none, 0, 0⟩, false, rfl, ⟨fun e => (by cases e), fun _ => ⟨lo, hi, hed.out, .inl ⟨v, hle, hv3⟩⟩⟩, k8.out⟩
 | false =>
  have hv1 := hXb2.2 rfl
  clear hXb2
  have hla := hide (next_n (LL := 8589934592) pD.out hf hzl.out.zm (by omega) (by omega) (by omega))
  have c0 := yl.out.c0
  have c1 := yl.out.c1
  go_wp2_with fail
  refine hla.out.mono ?_
  rintro e w5 ⟨kN, hN⟩
  obtain ⟨z3, b3, he, hXb3⟩ := nx_one hN
  clear hN
  subst he
  have hX3 := hide hXb3
  clear hXb3
  replace y2 := hide (y2.out.below kN)
  replace kw := hide (grow_step kN kw.out)
  clear hla kN c0 c1 yl yh hzl hzh pD
  have hl : Hid (∀ w', (∀ s1 ad len cap z, Zn w5 s1 ad len cap z → Zn w' s1 ad len cap z) → LeO D w' z3 b3) := hide fun w' hz => ⟨fun e => (by
   obtain ⟨v, h1, h2, h3, h4, h5⟩ := hX3.out.1 e
   exact ⟨v, fun u hu => (by
    by_cases h : u ≤ lo
    ·exact hv1 u (by omega)
    ·exact h2 u (by omega) (by omega)), h3, hz _ _ _ _ _ h4, h5⟩), fun e => ⟨lo, hi, hed.out, .inr fun u => (by
    by_cases h : u ≤ lo
    ·exact hv1 u (by omega)
    ·exact hX3.out.2 e u (by omega))⟩⟩
  clear hX3 hv1
  have f0 := y2.out.c0
  have f1 := y2.out.c1
  have f2 := y2.out.f 0
  have f3 := y2.out.f 1
  obtain ⟨w8, e8, y8, k8, -, hzn⟩ := est_z kw.out (Nat.le_of_eq hb.out) y2.out z3.s z3.a z3.l z3.c
  have hl8 := hide (hl.out w8 hzn)
  replace y8 := hide y8
  replace k8 := hide k8
  clear hzn
  go_wp2
  rw [e8.out]
  exact bodyPost_ret (results_ct rfl _ _ b 38 _ (0, 0) _ rfl y8.out Tryz.underlying38 rfl (by kernel_rfl)) rfl ⟨z3, b3, rfl, hl8.out, k8.out⟩
end Pd
end Go.Proofs.YtmiannlcfommpaaGreat

namespace Go.Proofs.YtmiannlcfommpaaGreat
open Go.RowKit Go.Sort
namespace Pd

/-- the first place and the last place -/
def Eb (D : PD) (lo hi : Int) : Prop := (D.cs.length = 0 ∧ lo = 0 ∧ hi = 0) ∨ ∃ (h : 0 < D.cs.length) (h2 : D.cs.length - 1 < D.cs.length), lo = D.cs[0] ∧ hi = D.cs[D.cs.length - 1]
theorem Eb.ed {D : PD} {lo hi lo' hi' : Int} (h : Eb D lo hi) (h' : Ed D lo' hi') : lo ≤ lo' + 1 ∧ hi = hi' := by
 rcases h with ⟨e, rfl, rfl⟩ | ⟨g, g2, rfl, rfl⟩ <;> rcases h' with ⟨e', rfl, rfl⟩ | ⟨g', g2', rfl, rfl⟩
 ·exact ⟨by omega, rfl⟩
 ·omega
 ·omega
 ·exact ⟨by omega, rfl⟩
theorem cntI_lo {f : Int → Bool} {a a' b : Int} (haa : a ≤ a') (h : ∀ u, a ≤ u → u < a' → f u = false) : cntI f a b = cntI f a' b := by
 by_cases hb : b < a'
 ·rw [cntI_none f hb, cntI_zero fun u h1 h2 => h u h1 (by omega)]
 ·by_cases ha : a = a'
  ·rw [ha]
  ·have h1 := cntI_parts f (a := a) (b := a' - 1) (c := b) (by omega) (by omega)
   have h2 : cntI f a (a' - 1) = 0 := cntI_zero fun u g1 g2 => h u g1 (by omega)
   rw [show a' - 1 + 1 = a' by omega] at h1
   omega
theorem cntI_hi {f : Int → Bool} {a b b' : Int} (hbb : b' ≤ b) (h : ∀ u, b' < u → u ≤ b → f u = false) : cntI f a b = cntI f a b' := by
 by_cases ha : b' < a
 ·rw [cntI_none f ha, cntI_zero fun u h1 h2 => h u (by omega) h2]
 ·have h1 := cntI_parts f (a := a) (b := b') (c := b) (by omega) hbb
  have h2 : cntI f (b' + 1) b = 0 := cntI_zero fun u g1 g2 => h u (by omega) g2
  omega
theorem fin_cnt {f : Int → Bool} {lo hi a b : Int} (h : Fin f lo hi) (ha : a ≤ lo + 1) (hb : hi - 1 ≤ b) : cntI f a b = cntI f lo hi := by
 rw [cntI_lo ha fun u _ h2 => h.1 u (by omega), cntI_hi hb fun u h1 _ => h.2 u (by omega), cntI_lo (a := lo) (a' := lo + 1) (by omega) fun u _ h2 => h.1 u (by omega), cntI_hi (b := hi) (b' := hi - 1) (by omega) fun u h1 _ => h.2 u (by omega)]
theorem cntI_some {f : Int → Bool} {lo hi v : Int} (h1 : lo < v) (h2 : v ≤ hi) (hv : f v = true) : 0 < cntI f lo hi := by
 have g1 := cntI_parts f (a := lo) (b := v - 1) (c := v) (by omega) (by omega)
 have g2 := cntI_parts f (a := lo) (b := v) (c := hi) (by omega) h2
 have g3 : cntI f v v = 1 := cntI_last (Int.le_refl v) (fun x h1 h2 => by omega) hv
 rw [show v - 1 + 1 = v by omega] at g1
 omega
theorem zm_nil {w : World} {s : Bool} {ad : Option Addr} {cap : Nat} {z : Int} (h : Zm w s ad 0 cap z) : z = 0 := by
 obtain ⟨n, ⟨zs, ⟨h1, _⟩, h2⟩, h3⟩ := h
 obtain rfl := List.length_eq_zero_iff.1 h1
 have : n = 0 := h2.symm.trans (by simp [val, vl])
 rw [h3, this]
 cases s <;> simp [sg]
/-- Least and Finite agree -/
theorem some_iff {w w' : World} {D : PD} {z y : ZV} {b : Bool} (hF : FiO D w z true) (hL : LeO D w' y b) : b = decide (0 < z.l) := by
 obtain ⟨lo, hi, he, hfin, hz⟩ := hF.1 rfl
 cases b with
 | true =>
  obtain ⟨v, -, hv, -, -⟩ := hL.1 rfl
  have h1 : lo < v := by
   by_cases h : v ≤ lo
   ·rw [hfin.1 v h] at hv
    cases hv
   ·omega
  have h2 : v < hi := by
   by_cases h : hi ≤ v
   ·rw [hfin.2 v h] at hv
    cases hv
   ·omega
  have h3 := cntI_some h1 (Int.le_of_lt h2) hv
  symm
  rw [decide_eq_true_iff]
  rcases Nat.eq_zero_or_pos z.l with h0 | h0
  ·have h4 := hz.zm
   rw [h0] at h4
   have := zm_nil h4
   omega
  ·exact h0
 | false =>
  obtain ⟨lo', hi', he', h⟩ := hL.2 rfl
  obtain ⟨rfl, rfl⟩ := he.uniq he'
  symm
  rw [decide_eq_false_iff_not]
  rcases h with ⟨v, h1, h2⟩ | h
  ·rw [hfin.1 v h1] at h2
   cases h2
  ·rw [cntI_zero fun u _ _ => h u] at hz
   have := zn_len hz (zn_zero w)
   omega
theorem fin_not {f g : Int → Bool} (h : ∀ x, g x = !f x) {lo hi lo' hi' : Int} (h1 : Fin f lo hi) (h2 : Fin g lo' hi') : False := by
 have e1 := h1.2 (max hi hi') (by omega)
 have e2 := h2.2 (max hi hi') (by omega)
 rw [h, e1] at e2
 cases e2
theorem FiO.below {D : PD} {w w' : World} {z : ZV} {b : Bool} (h : FiO D w z b) (k : Below w.heap.size w w') : FiO D w' z b := ⟨fun e => let ⟨lo, hi, h1, h2, h3⟩ := h.1 e; ⟨lo, hi, h1, h2, h3.below k⟩, h.2⟩
theorem LeO.below {D : PD} {w w' : World} {z : ZV} {b : Bool} (h : LeO D w z b) (k : Below w.heap.size w w') : LeO D w' z b := ⟨fun e => let ⟨v, h1, h2, h3, h4⟩ := h.1 e; ⟨v, h1, h2, h3.below k, h4⟩, h.2⟩
set_option maxRecDepth 100000 in
set_option maxHeartbeats 12800000 in
theorem censusEnds_walk {w : World} {la : Option Addr} {ln lc : Nat} {R0 : List MkD} {k : Int} {zf : ZV} {far : Int} (hR0 : MLs w la ln R0) (hn : ln ≤ 1048576) (hk : Iw k) (hb : Zm w zf.s zf.a zf.l zf.c far) (hbl : zf.l ≤ 1048576) :
  Calls Tryz.prog 7 #[.slice la ln lc, .int .i64 k, .agg #[.bool zf.s, .slice zf.a zf.l zf.c]] w fun e w' => e = .returned (.bool true) ∧ Below w.heap.size w w' := by
 have b0 := below_alloc w (.cells #[.bool zf.s, .slice zf.a zf.l zf.c] 38)
 have y5 := hide (zb_new w zf.s zf.a zf.l zf.c)
 have hset := hide (sets19_n (lc := lc) (hR0.below b0) hn)
 replace hb := hide (hb.below b0)
 have kw := hide b0
 obtain ⟨k0, k1⟩ := hk
 clear hR0 b0
 go_enter Tryz.func7, Tryz.ntmps7
 go_upto_region 1 with (fail)
 generalize w.alloc (.cells #[.bool zf.s, .slice zf.a zf.l zf.c] 38) = w1 at *
 obtain ⟨b5, hb5⟩ : ∃ c, w.heap.size = c := ⟨_, rfl⟩
 rw [hb5] at y5 ⊢
 have hbw : Hid (w.heap.size = b5) := hide hb5
 clear hb5
 go_wp2_with fail
 refine hset.out.mono ?_
 rintro e w2 ⟨sa, sn, sc, Ds, rfl, hsa, hsl, hs1, hs2, hcs, -, kN⟩
 obtain ⟨ba, hbal, rfl, -⟩ := hsl.get (i := 0) hs1 (by have := hsl.1; omega)
 have hkn := hide (known19_n w2)
 have hnil : ∀ W : World, (binOp .eql 27 (.slice (some ⟨ba, 0, none⟩) sn sc) (.slice none 0 0)).run Tryz.prog W = .ok (.bool false) W := fun W => Go.Lib.run_eql_slice_some_nil W _ _ _ Tryz.underlying27
 replace hb := hide (hb.out.below kN)
 replace y5 := hide (y5.out.below kN)
 replace kw := hide (grow_step kN kw.out)
 clear hsa hset kN
 replace hsl := hide hsl
 replace hcs := hide hcs
 go_wp2_with fail
 refine hkn.out.mono ?_
 rintro e w3 ⟨rfl, kN⟩
 replace hb := hide (hb.out.below kN)
 replace y5 := hide (y5.out.below kN)
 replace kw := hide (grow_step kN kw.out)
 have hs := hsl.out.below kN
 have hl := hs.1
 have hji := pkN_lt (c := k) (n := (sn : Int)) (by omega)
 have hci := hide (pick19_n k sn k0 k1 (by omega) (by omega) w3)
 obtain ⟨xi, hxi⟩ : ∃ xi, pkN k (sn : Int) = xi := ⟨_, rfl⟩
 rw [hxi] at hji hci
 obtain ⟨_, bS, e1, hba, dA, pD⟩ := hs.get (i := xi) (by omega) (by omega)
 cases e1
 have hcD := hcs.out _ (List.getElem_mem (show xi < Ds.length by omega))
 generalize Ds[xi]'(by omega) = D at *
 replace pD := hide pD
 clear hkn hsl kN hs hl hcs hxi
 go_wp2_with fail
 refine hci.out.mono ?_
 rintro e w4 ⟨rfl, kN⟩
 have gA := (kN.cell (p := ⟨ba, xi, none⟩) hba).trans dA
 replace hb := hide (hb.out.below kN)
 replace y5 := hide (y5.out.below kN)
 replace pD := hide (pD.out.below kN)
 replace kw := hide (grow_step kN kw.out)
 clear hci dA hba kN hnil k0 k1 hs1 hs2
 have hco := hide (cuts_n pD.out (by omega))
 go_wp2_with fail
 refine hco.out.mono ?_
 rintro e w5 ⟨ca, cc, rfl, hcl, kN, -⟩
 replace hb := hide (hb.out.below kN)
 replace y5 := hide (y5.out.below kN)
 replace pD := hide (pD.out.below kN)
 replace kw := hide (grow_step kN kw.out)
 clear hco kN gA
 obtain ⟨n, hnl⟩ : ∃ n, D.cs.length = n := ⟨_, rfl⟩
 rw [hnl] at hcl ⊢
 replace hcl := hide hcl
 have hnum := fun u : World => hide (num_n 0 (by decide) (by decide) u)
 go_wp2_with fail
 refine (hnum _).out.mono ?_
 rintro e w6 ⟨u1, rfl, hu1, kN, hul1⟩
 have y10 := hide (zb_new w6 u1.s u1.a u1.l u1.c)
 have kA := grow_step (below_alloc w6 (.cells #[.bool u1.s, .slice u1.a u1.l u1.c] 38)) kN
 replace hu1 := hide (hu1.below (below_alloc w6 (.cells #[.bool u1.s, .slice u1.a u1.l u1.c] 38)))
 have hge10 : w5.heap.size ≤ w6.heap.size := kN.size
 replace kN := hide kA
 go_upto_region 7 with (fail)
 generalize w6.alloc (.cells #[.bool u1.s, .slice u1.a u1.l u1.c] 38) = w7 at *
 obtain ⟨b10, hb10⟩ : ∃ c, w6.heap.size = c := ⟨_, rfl⟩
 rw [hb10] at y10 hge10 ⊢
 clear hb10 kA
 go_wp2_with fail
 refine (hnum _).out.mono ?_
 rintro e w8 ⟨u2, rfl, hu2, kM, hul2⟩
 have y11 := hide (zb_new w8 u2.s u2.a u2.l u2.c)
 have hlt10 : b10 < w8.heap.size := (y10.out.below kM).lt
 have kA := grow_step (below_alloc w8 (.cells #[.bool u2.s, .slice u2.a u2.l u2.c] 38)) kM
 replace hu2 := hide (hu2.below (below_alloc w8 (.cells #[.bool u2.s, .slice u2.a u2.l u2.c] 38)))
 replace hu1 := hide (hu1.out.below kA)
 replace y10 := hide (y10.out.below kA)
 have hge11 : w5.heap.size ≤ w8.heap.size := (grow_step kM kN.out).size
 have kC := hide (grow_step kA kN.out)
 clear kN kM kA
 go_upto_if 44 with (fail)
 generalize w8.alloc (.cells #[.bool u2.s, .slice u2.a u2.l u2.c] 38) = w9 at *
 obtain ⟨b11, hb11⟩ : ∃ c, w8.heap.size = c := ⟨_, rfl⟩
 rw [hb11] at y11 hge11 hlt10 ⊢
 clear hb11 hnum
 go_cut [] (fun wc => ∃ (zl zh : ZV) (lo hi : Int), Hid (ZB wc b10 zl.s zl.a zl.l zl.c) ∧ Hid (ZB wc b11 zh.s zh.a zh.l zh.c) ∧ Hid (Zn wc zl.s zl.a zl.l zl.c lo) ∧ Hid (Zn wc zh.s zh.a zh.l zh.c hi) ∧ zl.l ≤ 1073741825 ∧ zh.l ≤ 1073741825 ∧ Hid (Eb D lo hi) ∧ Hid (Below w5.heap.size w5 wc))
 case first =>
  by_cases hn0 : n = 0
  ·subst hn0
   go_wp2_with fail
   go_meet
   case rel => exact ⟨u1, u2, 0, 0, y10, y11, hu1, hu2, by omega, by omega, hide (.inl ⟨hnl, rfl, rfl⟩), kC⟩
  ·have hgt : decide (0 < n) = true := by rw [decide_eq_true_iff]; omega
   obtain ⟨cb, off, z0, hca, hcb, d0, d1, hz0⟩ := hcl.out.get (i := 0) (by omega) (by omega)
   obtain ⟨_, _, z9, e9, -, d2, d3, hz9⟩ := hcl.out.get (i := n - 1) (by omega) (by omega)
   subst hca
   cases e9
   have hl0 := hz0.le
   have hl9 := hz9.le
   have hbnd := hcl.out
   obtain ⟨m, rfl⟩ : ∃ m, n = m + 1 := ⟨n - 1, by omega⟩
   have heb : Hid (Eb D D.cs[0] (D.cs[m + 1 - 1]'(by omega))) := hide (.inr ⟨by omega, by omega, rfl, by simp only [hnl]⟩)
   generalize D.cs[0]'(by omega) = c0 at *
   generalize D.cs[m + 1 - 1]'(by omega) = c9 at *
   simp only [Nat.zero_mul, Nat.add_zero, Nat.add_sub_cancel] at d0 d1 d2 d3
   clear hbnd hgt
   -- the first
   have t0 := (Below.cell (p := ⟨cb, _, none⟩) kC.out hcb).trans d0
   have t1 := (Below.cell (p := ⟨cb, _, none⟩) kC.out hcb).trans d1
   have f0 := y10.out.c0
   have f1 := y10.out.c1
   have f2 := y10.out.f 0
   have f3 := y10.out.f 1
   obtain ⟨wA, e8, yA, kA, oA, -⟩ := est_z kC.out hge10 y10.out z0.s z0.a z0.l z0.c
   have yB := y11.out.only oA (by omega)
   obtain ⟨wB, e9, yC, kB, oB, -⟩ := est_z kA hge11 yB z9.s z9.a z9.l z9.c
   have yD := hide (yA.only oB (by omega))
   replace yC := hide yC
   have hzlo := hide (hz0.below kB).zn.zn
   have hzhi := hide (hz9.below kB).zn.zn
   have tA2 := (Below.cell (p := ⟨cb, _, none⟩) kA hcb).trans d2
   have tA3 := (Below.cell (p := ⟨cb, _, none⟩) kA hcb).trans d3
   have g0 := yB.c0
   have g1 := yB.c1
   have g2 := yB.f 0
   have g3 := yB.f 1
   replace kB := hide kB
   clear yA kA oA yB oB hz0 hz9 d0 d1 d2 d3 hcl kC y10 y11
   go_upto_region 10 with (fail)
   rw [e8.out]
   clear f0 f1 f2 f3 t0 t1 e8
   go_wp2_with fail
   rw [e9.out]
   go_meet
   case rel => exact ⟨z0, z9, c0, c9, yD, yC, hzlo, hzhi, by omega, by omega, heb, kB⟩
 case rest =>
 obtain ⟨zl, zh, lo, hi, y10, y11, hlo, hhi, hlol, hhil, heb, kC⟩ := hcut
 generalize wc = wA at *
 replace hb := hide (hb.out.below kC.out)
 replace y5 := hide (y5.out.below kC.out)
 replace pD := hide (pD.out.below kC.out)
 replace kw := hide (grow_step kC.out kw.out)
 clear kC hcl hge10 hge11 hlt10 hu1 hu2 hul1 hul2
 have hab := hide (rabs_n hb.out (by omega))
 have c0 := y5.out.c0
 have c1 := y5.out.c1
 go_wp2_with fail
 refine hab.out.mono ?_
 rintro e wB ⟨sd, ad, ld, cd, rfl, hd, kN, hdl⟩
 have kA := grow_step (below_alloc wB (.cells #[.bool sd, .slice ad ld cd] 38)) kN
 have y12 := hide (zb_new wB sd ad ld cd)
 replace hd := hide (hd.below (below_alloc wB (.cells #[.bool sd, .slice ad ld cd] 38)))
 obtain ⟨d, hdd⟩ : ∃ d : Int, (far.natAbs : Int) = d := ⟨_, rfl⟩
 have hd0 : 0 ≤ d := by omega
 rw [hdd] at hd
 clear hdd
 replace pD := hide (pD.out.below kA)
 replace y10 := hide (y10.out.below kA)
 replace y11 := hide (y11.out.below kA)
 replace hlo := hide (hlo.out.below kA)
 replace hhi := hide (hhi.out.below kA)
 replace kw := hide (grow_step kA kw.out)
 clear hab kA kN hb y5 c0 c1
 go_upto_region 12 with (fail)
 generalize wB.alloc (.cells #[.bool sd, .slice ad ld cd] 38) = wC at *
 obtain ⟨b12, hb12⟩ : ∃ c, wB.heap.size = c := ⟨_, rfl⟩
 rw [hb12] at y12 ⊢
 clear hb12
 have hfi := hide (Finite_n pD.out (by omega))
 go_wp2_with fail
 refine hfi.out.mono ?_
 rintro e wD ⟨zf1, b1, rfl, hzf, kN⟩
 have kA := grow_step (below_alloc wD (.cells #[.bool zf1.s, .slice zf1.a zf1.l zf1.c] 38)) kN
 have y13 := hide (zb_new wD zf1.s zf1.a zf1.l zf1.c)
 replace hzf := hide (hzf.below (below_alloc wD (.cells #[.bool zf1.s, .slice zf1.a zf1.l zf1.c] 38)))
 replace pD := hide (pD.out.below kA)
 replace y10 := hide (y10.out.below kA)
 replace y11 := hide (y11.out.below kA)
 replace hlo := hide (hlo.out.below kA)
 replace hhi := hide (hhi.out.below kA)
 replace y12 := hide (y12.out.below kA)
 replace hd := hide (hd.out.below kA)
 replace kw := hide (grow_step kA kw.out)
 clear hfi kA kN
 go_upto_region 13 with (fail)
 generalize wD.alloc (.cells #[.bool zf1.s, .slice zf1.a zf1.l zf1.c] 38) = wE at *
 obtain ⟨b13, hb13⟩ : ∃ c, wD.heap.size = c := ⟨_, rfl⟩
 rw [hb13] at y13 ⊢
 clear hb13
 have hle := hide (Least_n pD.out (by omega))
 go_wp2_with fail
 refine hle.out.mono ?_
 rintro e wF ⟨zm, b2, rfl, hzl, kN⟩
 have kA := grow_step (below_alloc wF (.cells #[.bool zm.s, .slice zm.a zm.l zm.c] 38)) kN
 have y15 := hide (zb_new wF zm.s zm.a zm.l zm.c)
 replace hzl := hide (hzl.below (below_alloc wF (.cells #[.bool zm.s, .slice zm.a zm.l zm.c] 38)))
 replace pD := hide (pD.out.below kA)
 replace y10 := hide (y10.out.below kA)
 replace y11 := hide (y11.out.below kA)
 replace hlo := hide (hlo.out.below kA)
 replace hhi := hide (hhi.out.below kA)
 replace y12 := hide (y12.out.below kA)
 replace hd := hide (hd.out.below kA)
 replace y13 := hide (y13.out.below kA)
 replace hzf := hide (hzf.out.below kA)
 replace kw := hide (grow_step kA kw.out)
 clear hle kA kN
 go_upto_region 14 with (fail)
 generalize wF.alloc (.cells #[.bool zm.s, .slice zm.a zm.l zm.c] 38) = wG at *
 obtain ⟨b15, hb15⟩ : ∃ c, wF.heap.size = c := ⟨_, rfl⟩
 rw [hb15] at y15 ⊢
 clear hb15
 have hre := hide (rest_n pD.out (by omega))
 go_wp2_with fail
 refine hre.out.mono ?_
 rintro e wH ⟨bR, R, rfl, hR, kN, -, cR, mR⟩
 replace pD := hide (pD.out.below kN)
 replace y10 := hide (y10.out.below kN)
 replace y11 := hide (y11.out.below kN)
 replace hlo := hide (hlo.out.below kN)
 replace hhi := hide (hhi.out.below kN)
 replace y12 := hide (y12.out.below kN)
 replace hd := hide (hd.out.below kN)
 replace y13 := hide (y13.out.below kN)
 replace hzf := hide (hzf.out.below kN)
 replace y15 := hide (y15.out.below kN)
 replace hzl := hide (hzl.out.below kN)
 replace kw := hide (grow_step kN kw.out)
 have hfi := hide (Finite_n hR (by rw [cR]; omega))
 replace mR := hide mR
 clear hre kN hR cR
 go_wp2_with fail
 refine hfi.out.mono ?_
 rintro e wI ⟨zr, b3, rfl, hzr, kN⟩
 have kA := grow_step (below_alloc wI (.cells #[.bool zr.s, .slice zr.a zr.l zr.c] 38)) kN
 have hno : Hid (¬ (b1 = true ∧ b3 = true)) := hide fun ⟨e1, e2⟩ => by
  obtain ⟨_, _, -, h1, -⟩ := hzf.out.1 e1
  obtain ⟨_, _, -, h2, -⟩ := hzr.1 e2
  exact fin_not mR.out h1 h2
 replace pD := hide (pD.out.below kA)
 replace y10 := hide (y10.out.below kA)
 replace y11 := hide (y11.out.below kA)
 replace hlo := hide (hlo.out.below kA)
 replace hhi := hide (hhi.out.below kA)
 replace y12 := hide (y12.out.below kA)
 replace hd := hide (hd.out.below kA)
 replace y13 := hide (y13.out.below kA)
 replace hzf := hide (hzf.out.below kA)
 replace y15 := hide (y15.out.below kA)
 replace hzl := hide (hzl.out.below kA)
 replace kw := hide (grow_step kA kw.out)
 clear hfi kA kN hzr mR
 go_upto_region 15 with (fail)
 generalize wI.alloc (.cells #[.bool zr.s, .slice zr.a zr.l zr.c] 38) = wS at *
 go_cut [75] (fun v75 wc => v75 = .bool false ∧ wc = wS)
 case first =>
  cases b1 with
  | true =>
   cases b3 with
   | true => exact absurd ⟨rfl, rfl⟩ hno.out
   | false =>
    go_wp2_with fail
    go_meet
    case rel => exact ⟨rfl, rfl⟩
  | false =>
   go_wp2_with fail
   go_meet
   case rel => exact ⟨rfl, rfl⟩
 case rest =>
 obtain ⟨rfl, rfl⟩ := hcut
 generalize wc = wS at *
 clear hno
 go_upto_if 76 with (fail)
 go_cut [] (fun wc => Hid (Below wS.heap.size wS wc))
 case first =>
  cases b2 with
  | false =>
   go_wp2_with fail
   go_meet
   case rel => exact hide (Below.refl _ _)
  | true =>
   obtain ⟨v, hv1, hv3, hzm, hzml⟩ := hzl.out.1 rfl
   have hcn : Hid (cntI (mem D) (v - d) v = 1) := hide (cntI_last (by omega) (fun u _ h => hv1 u h) hv3)
   clear hzl hv1
   replace hzm := hide hzm
   go_upto_region 18 with (fail)
   refine wp_region_held_drew (S := (fun w' => (w'.cell? ⟨b15, 0, none⟩ = some (.bool zm.s) ∧ w'.cell? ⟨b15, 1, none⟩ = some (.slice zm.a zm.l zm.c)) ∧ (w'.cell? ⟨b12, 0, none⟩ = some (.bool sd) ∧ w'.cell? ⟨b12, 1, none⟩ = some (.slice ad ld cd)))) (by kernel_rfl) (⟨⟨(y15.out.below (grow_drew (Below.refl _ _))).c0, (y15.out.below (grow_drew (Below.refl _ _))).c1⟩, ⟨(y12.out.below (grow_drew (Below.refl _ _))).c0, (y12.out.below (grow_drew (Below.refl _ _))).c1⟩⟩) (fun hHeld => ?_)
   show wpAnyH _ _ _ _ _ 12 _ _ _
   have kW := grow_drew (Below.refl wS.heap.size wS)
   generalize wS.drew = wQ at *
   repeat' first
    | with_reducible exact AllReadyH.nil
    | (
     refine wpAnyH_take (i := 0) (oi := ⟨some 78, _, _, _, _, _⟩) (v := ?_) rfl (by decide +kernel) (by decide +kernel) (by decide +kernel) (fun _ _ _ h => h) (Or.inl ⟨by rfl, ?_⟩) (by assumption) ?_
     rotate_left
     ·intro wq hSw; (try dsimp only at hSw); go_simp; (try with_reducible rfl)
     (try simp only [Act.put, List.setIfInBounds_toArray, List.set_cons_zero, List.set_cons_succ]))
    | (
     refine wpAnyH_take (i := 1) (oi := ⟨some 79, _, _, _, _, _⟩) (v := ?_) rfl (by decide +kernel) (by decide +kernel) (by decide +kernel) (fun _ _ _ h => h) (Or.inl ⟨by rfl, ?_⟩) (by assumption) ?_
     rotate_left
     ·intro wq hSw; (try dsimp only at hSw); go_simp; (try with_reducible rfl)
     (try simp only [Act.put, List.setIfInBounds_toArray, List.set_cons_zero, List.set_cons_succ]))
    | (
     refine wpAnyH_take (i := 2) (oi := ⟨some 80, _, _, _, _, _⟩) (v := ?_) rfl (by decide +kernel) (by decide +kernel) (by decide +kernel) (fun _ _ _ h => h) (Or.inl ⟨by rfl, ?_⟩) (by assumption) ?_
     rotate_left
     ·intro wq hSw; (try dsimp only at hSw); go_simp; (try with_reducible rfl)
     (try simp only [Act.put, List.setIfInBounds_toArray, List.set_cons_zero, List.set_cons_succ]))
    | (
     refine wpAnyH_take (i := 4) (oi := ⟨some 82, _, _, _, _, _⟩) (v := ?_) rfl (by decide +kernel) (by decide +kernel) (by decide +kernel) (fun _ _ _ h => h) (Or.inl ⟨by rfl, ?_⟩) (by assumption) ?_
     rotate_left
     ·intro wq hSw; (try dsimp only at hSw); go_simp; (try with_reducible rfl)
     (try simp only [Act.put, List.setIfInBounds_toArray, List.set_cons_zero, List.set_cons_succ]))
    | (
     refine wpAnyH_take (i := 6) (oi := ⟨some 77, _, _, _, _, _⟩) (v := ?_) rfl (by decide +kernel) (by decide +kernel) (by decide +kernel) (fun _ _ _ h => h) (Or.inl ⟨by rfl, ?_⟩) (by assumption) ?_
     rotate_left
     ·intro wq hSw; (try dsimp only at hSw); go_simp; (try with_reducible rfl)
     (try simp only [Act.put, List.setIfInBounds_toArray, List.set_cons_zero, List.set_cons_succ]))
    | (
     refine wpAnyH_take (i := 7) (oi := ⟨some 84, _, _, _, _, _⟩) (v := ?_) rfl (by decide +kernel) (by decide +kernel) (by decide +kernel) (fun _ _ _ h => h) (Or.inl ⟨by rfl, ?_⟩) (by assumption) ?_
     rotate_left
     ·intro wq hSw; (try dsimp only at hSw); go_simp; (try with_reducible rfl)
     (try simp only [Act.put, List.setIfInBounds_toArray, List.set_cons_zero, List.set_cons_succ]))
    | (
     refine wpAnyH_take (i := 8) (oi := ⟨some 85, _, _, _, _, _⟩) (v := ?_) rfl (by decide +kernel) (by decide +kernel) (by decide +kernel) (fun _ _ _ h => h) (Or.inl ⟨by rfl, ?_⟩) (by assumption) ?_
     rotate_left
     ·intro wq hSw; (try dsimp only at hSw); go_simp; (try with_reducible rfl)
     (try simp only [Act.put, List.setIfInBounds_toArray, List.set_cons_zero, List.set_cons_succ]))
    | (
     refine wpAnyH_take (i := 11) (oi := ⟨some 20, _, _, _, _, _⟩) (v := ?_) rfl (by decide +kernel) (by decide +kernel) (by decide +kernel) (fun _ _ _ h => h) (Or.inl ⟨by rfl, ?_⟩) (by assumption) ?_
     rotate_left
     ·intro wq hSw; (try dsimp only at hSw); go_simp; (try with_reducible rfl)
     (try simp only [Act.put, List.setIfInBounds_toArray, List.set_cons_zero, List.set_cons_succ]))
    | (refine wpAnyH_ready (rs := [3, 9]) ?_ ?_ ?_; decide +kernel; simp)
    | (refine wpAnyH_ready (rs := [5, 9]) ?_ ?_ ?_; decide +kernel; simp)
    | (refine wpAnyH_ready (rs := [9]) ?_ ?_ ?_; decide +kernel; simp)
    | (refine wpAnyH_ready (rs := [10]) ?_ ?_ ?_; decide +kernel; simp)
    | (refine wpAnyH_ready (rs := [5]) ?_ ?_ ?_; decide +kernel; simp)
    | (refine wpAnyH_ready (rs := [3]) ?_ ?_ ?_; decide +kernel; simp)
    | (
     first
      | (
       refine AllReadyH.cons (i := 3) (o := ⟨some 81, _, _, _, _, _⟩) rfl (fun K hK => ?_) ?_
       go_simp
       go_at_call 39; refine Calls.mono (rsub2_n (hzm.out.below kW).zm (hd.out.below kW).zm (by omega) (by omega)) ?_; rintro e wkA ⟨sA, aA, lA, cA, rfl, hzA, kA, hlA⟩
       try have z19 := z19.below kA
       have kW := grow_step kA kW
       try go_wp2_with fail)
      | (
       refine AllReadyH.cons (i := 5) (o := ⟨some 83, _, _, _, _, _⟩) rfl (fun K hK => ?_) ?_
       go_simp
       go_at_call 22; refine Calls.mono (Count_n (zl := ⟨sA, aA, lA, cA⟩) (pD.out.below kW) (by omega) hzA.zm (by show lA ≤ _; omega) (hzm.out.below kW).zm (by omega)) ?_; rintro e wkB ⟨zk, rfl, hzk, hkl, kB⟩
       rw [hcn.out] at hzk
       try have z19 := z19.below kB
       have kW := grow_step kB kW
       try go_wp2_with fail)
      | (
       refine AllReadyH.cons (i := 9) (o := ⟨some 19, _, _, _, _, _⟩) rfl (fun K hK => ?_) ?_
       obtain ⟨wL, b19, eL, eb19, z19, hb19, kL, kW⟩ := al_b kW (.cells #[.bool false, .slice none 0 0] 38)
       replace z19 : ZB wL b19 false none 0 0 := z19
       try have hzA := hzA.below kL
       try have hzk := hzk.below kL
       go_simp
       rw [eL.out]
       (try simp only [eb19.out]))
      | (
       refine AllReadyH.cons (i := 10) (o := ⟨none, _, _, _, _, _⟩) rfl (fun K hK => ?_) ?_
       have f0 := z19.c0
       have f1 := z19.c1
       have f2 := z19.f 0
       have f3 := z19.f 1
       obtain ⟨w8x, e8, z19, kZ, hzn, hzb⟩ := fst_z kW hb19 z19 zk.s zk.a zk.l zk.c
       have hzk := hzn _ _ _ _ _ hzk
       go_simp
       rw [e8.out]
       clear f0 f1 f2 f3 hzn hzb
       have kW := kZ)
     refine hK.out _ _ ?_ ?_
     ·first | with_reducible exact trivial | ((try dsimp only); exact ⟨⟨(y15.out.below kW).c0, (y15.out.below kW).c1⟩, ⟨(y12.out.below kW).c0, (y12.out.below kW).c1⟩⟩)
     clear hK K hHeld; intro hHeld
     (try simp only [Act.put, List.setIfInBounds_toArray, List.set_cons_zero, List.set_cons_succ]))
   all_goals
    refine wpAnyH_done ?_ ?_ _
    ·decide +kernel
    replace hzk := hide hzk
    have y19 := hide z19
    have k8 := hide kW
    have y15b := hide (y15.out.below kW)
    have pD2 := hide (pD.out.below kW)
    have hzm2 := hide (hzm.out.below kW)
    clear kW hHeld hzA z19 e8
    go_upto_region 19 with (fail)
    generalize w8x = wB at *
    refine wp_region_held_drew (S := (fun w' => (w'.cell? ⟨b15, 0, none⟩ = some (.bool zm.s) ∧ w'.cell? ⟨b15, 1, none⟩ = some (.slice zm.a zm.l zm.c)) ∧ (w'.cell? ⟨b19, 0, none⟩ = some (.bool zk.s) ∧ w'.cell? ⟨b19, 1, none⟩ = some (.slice zk.a zk.l zk.c)))) (by kernel_rfl) (⟨⟨(y15b.out.below (grow_drew (Below.refl _ _))).c0, (y15b.out.below (grow_drew (Below.refl _ _))).c1⟩, ⟨(y19.out.below (grow_drew (Below.refl _ _))).c0, (y19.out.below (grow_drew (Below.refl _ _))).c1⟩⟩) (fun hHeld => ?_)
    show wpAnyH _ _ _ _ _ 14 _ _ _
    have kW := grow_drew (Below.refl wB.heap.size wB)
    generalize wB.drew = wQ at *
    refine wpAnyH_take (i := 0) (oi := ⟨some 86, _, _, _, _, _⟩) (v := ?_) rfl (by decide +kernel) (by decide +kernel) (by decide +kernel) (fun _ _ _ h => h) (Or.inl ⟨by rfl, ?_⟩) (by assumption) ?_
    rotate_left
    ·intro wq hSw; (try dsimp only at hSw); go_simp; (try with_reducible rfl)
    (try simp only [Act.put, List.setIfInBounds_toArray, List.set_cons_zero, List.set_cons_succ])
    refine wpAnyH_take (i := 1) (oi := ⟨some 87, _, _, _, _, _⟩) (v := ?_) rfl (by decide +kernel) (by decide +kernel) (by decide +kernel) (fun _ _ _ h => h) (Or.inl ⟨by rfl, ?_⟩) (by assumption) ?_
    rotate_left
    ·intro wq hSw; (try dsimp only at hSw); go_simp; (try with_reducible rfl)
    (try simp only [Act.put, List.setIfInBounds_toArray, List.set_cons_zero, List.set_cons_succ])
    refine wpAnyH_take (i := 2) (oi := ⟨some 88, _, _, _, _, _⟩) (v := ?_) rfl (by decide +kernel) (by decide +kernel) (by decide +kernel) (fun _ _ _ h => h) (Or.inl ⟨by rfl, ?_⟩) (by assumption) ?_
    rotate_left
    ·intro wq hSw; (try dsimp only at hSw); go_simp; (try with_reducible rfl)
    (try simp only [Act.put, List.setIfInBounds_toArray, List.set_cons_zero, List.set_cons_succ])
    refine wpAnyH_take (i := 3) (oi := ⟨some 89, _, _, _, _, _⟩) (v := ?_) rfl (by decide +kernel) (by decide +kernel) (by decide +kernel) (fun _ _ _ h => h) (Or.inl ⟨by rfl, ?_⟩) (by assumption) ?_
    rotate_left
    ·intro wq hSw; (try dsimp only at hSw); go_simp; (try with_reducible rfl)
    (try simp only [Act.put, List.setIfInBounds_toArray, List.set_cons_zero, List.set_cons_succ])
    refine wpAnyH_take (i := 4) (oi := ⟨some 90, _, _, _, _, _⟩) (v := ?_) rfl (by decide +kernel) (by decide +kernel) (by decide +kernel) (fun _ _ _ h => h) (Or.inl ⟨by rfl, ?_⟩) (by assumption) ?_
    rotate_left
    ·intro wq hSw; (try dsimp only at hSw); go_simp; (try with_reducible rfl)
    (try simp only [Act.put, List.setIfInBounds_toArray, List.set_cons_zero, List.set_cons_succ])
    refine wpAnyH_ready (rs := [5]) (by decide +kernel) (by simp) ?_
    refine AllReadyH.cons (i := 5) (o := ⟨some 91, _, _, _, _, _⟩) rfl (fun K hK => ?_) AllReadyH.nil
    go_simp
    go_at_call 40; refine Calls.mono (sHas_n (y := zm) (pD2.out.below kW) (by omega) (hzm2.out.below kW).zm (by omega)) ?_; rintro e wkB ⟨rfl, kB⟩
    rw [hv3]
    have kW := grow_step kB kW
    try go_wp2_with fail
    refine hK.out _ _ ?_ ?_
    ·first | with_reducible exact trivial | ((try dsimp only); exact ⟨⟨(y15b.out.below kW).c0, (y15b.out.below kW).c1⟩, ⟨(y19.out.below kW).c0, (y19.out.below kW).c1⟩⟩)
    clear hK K hHeld; intro hHeld
    (try simp only [Act.put, List.setIfInBounds_toArray, List.set_cons_zero, List.set_cons_succ])
    refine wpAnyH_take (i := 6) (oi := ⟨some 92, _, _, _, _, _⟩) (v := ?_) rfl (by decide +kernel) (by decide +kernel) (by decide +kernel) (fun _ _ _ h => h) (Or.inl ⟨by rfl, ?_⟩) (by assumption) ?_
    rotate_left
    ·intro wq hSw; (try dsimp only at hSw); go_simp; (try with_reducible rfl)
    (try simp only [Act.put, List.setIfInBounds_toArray, List.set_cons_zero, List.set_cons_succ])
    refine wpAnyH_take (i := 7) (oi := ⟨some 93, _, _, _, _, _⟩) (v := ?_) rfl (by decide +kernel) (by decide +kernel) (by decide +kernel) (fun _ _ _ h => h) (Or.inl ⟨by rfl, ?_⟩) (by assumption) ?_
    rotate_left
    ·intro wq hSw; (try dsimp only at hSw); go_simp; (try with_reducible rfl)
    (try simp only [Act.put, List.setIfInBounds_toArray, List.set_cons_zero, List.set_cons_succ])
    refine wpAnyH_take (i := 8) (oi := ⟨some 94, _, _, _, _, _⟩) (v := ?_) rfl (by decide +kernel) (by decide +kernel) (by decide +kernel) (fun _ _ _ h => h) (Or.inl ⟨by rfl, ?_⟩) (by assumption) ?_
    rotate_left
    ·intro wq hSw; (try dsimp only at hSw); go_simp; (try with_reducible rfl)
    (try simp only [Act.put, List.setIfInBounds_toArray, List.set_cons_zero, List.set_cons_succ])
    refine wpAnyH_take (i := 9) (oi := ⟨some 95, _, _, _, _, _⟩) (v := ?_) rfl (by decide +kernel) (by decide +kernel) (by decide +kernel) (fun _ _ _ h => h) (Or.inl ⟨by rfl, ?_⟩) (by assumption) ?_
    rotate_left
    ·intro wq hSw; (try dsimp only at hSw); go_simp; (try with_reducible rfl)
    (try simp only [Act.put, List.setIfInBounds_toArray, List.set_cons_zero, List.set_cons_succ])
    refine wpAnyH_ready (rs := [10]) (by decide +kernel) (by simp) ?_
    refine AllReadyH.cons (i := 10) (o := ⟨some 96, _, _, _, _, _⟩) rfl (fun K hK => ?_) AllReadyH.nil
    go_simp
    go_at_call 36; refine Calls.mono (num_n (1) (by decide) (by decide) _) ?_; rintro e wkv1 ⟨v1, rfl, v1h, kv1, v1l⟩
    have kW := grow_step kv1 kW
    try go_wp2_with fail
    refine hK.out _ _ ?_ ?_
    ·first | with_reducible exact trivial | ((try dsimp only); exact ⟨⟨(y15b.out.below kW).c0, (y15b.out.below kW).c1⟩, ⟨(y19.out.below kW).c0, (y19.out.below kW).c1⟩⟩)
    clear hK K hHeld; intro hHeld
    (try simp only [Act.put, List.setIfInBounds_toArray, List.set_cons_zero, List.set_cons_succ])
    refine wpAnyH_ready (rs := [11]) (by decide +kernel) (by simp) ?_
    refine AllReadyH.cons (i := 11) (o := ⟨some 97, _, _, _, _, _⟩) rfl (fun K hK => ?_) AllReadyH.nil
    go_simp
    go_at_call 23; refine Calls.mono (ints19_zn (z := zk) (y := v1) (hzk.out.below kW) v1h) ?_; rintro e wkE ⟨rfl, kE⟩
    have kW := grow_step kE kW
    try go_wp2_with fail
    refine hK.out _ _ ?_ ?_
    ·first | with_reducible exact trivial | ((try dsimp only); exact ⟨⟨(y15b.out.below kW).c0, (y15b.out.below kW).c1⟩, ⟨(y19.out.below kW).c0, (y19.out.below kW).c1⟩⟩)
    clear hK K hHeld; intro hHeld
    (try simp only [Act.put, List.setIfInBounds_toArray, List.set_cons_zero, List.set_cons_succ])
    refine wpAnyH_take (i := 12) (oi := ⟨some 98, _, _, _, _, _⟩) (v := ?_) rfl (by decide +kernel) (by decide +kernel) (by decide +kernel) (fun _ _ _ h => h) (Or.inl ⟨by rfl, ?_⟩) (by assumption) ?_
    rotate_left
    ·intro wq hSw; (try dsimp only at hSw); go_simp; (try with_reducible rfl)
    (try simp only [Act.put, List.setIfInBounds_toArray, List.set_cons_zero, List.set_cons_succ])
    refine wpAnyH_take (i := 13) (oi := ⟨some 99, _, _, _, _, _⟩) (v := ?_) rfl (by decide +kernel) (by decide +kernel) (by decide +kernel) (fun _ _ _ h => h) (Or.inl ⟨by rfl, ?_⟩) (by assumption) ?_
    rotate_left
    ·intro wq hSw; (try dsimp only at hSw); go_simp; (try with_reducible rfl)
    (try simp only [Act.put, List.setIfInBounds_toArray, List.set_cons_zero, List.set_cons_succ])
    refine wpAnyH_done ?_ ?_ _
    ·decide +kernel
    have kz := hide (grow_step kW k8.out)
    clear kW hHeld
    go_wp2_with fail
    go_meet
    case rel => exact kz
 case rest =>
 generalize wc = wT at *
 replace pD := hide (pD.out.below hcut.out)
 replace y10 := hide (y10.out.below hcut.out)
 replace y11 := hide (y11.out.below hcut.out)
 replace hlo := hide (hlo.out.below hcut.out)
 replace hhi := hide (hhi.out.below hcut.out)
 replace y12 := hide (y12.out.below hcut.out)
 replace hd := hide (hd.out.below hcut.out)
 replace y13 := hide (y13.out.below hcut.out)
 replace hzf := hide (hzf.out.below hcut.out)
 replace hzl := hide (hzl.out.below hcut.out)
 replace kw := hide (grow_step hcut.out kw.out)
 clear hcut y15
 go_upto_if 101 with (fail)
 cases b1 with
 | false =>
  obtain rfl := hzf.out.2 rfl
  have c0 := y13.out.c0
  have c1 := y13.out.c1
  go_wp2_with fail
  refine Calls.mono (ints19_zn (z := ⟨false, none, 0, 0⟩) (y := ⟨false, none, 0, 0⟩) (zn_zero _) (zn_zero _)) ?_
  rintro e wU ⟨rfl, kN⟩
  have kz := hide (grow_step kN kw.out)
  clear kN c0 c1
  go_wp2
  exact bodyPost_ret (results_tmp rfl _ _ _) rfl ⟨rfl, kz.out⟩
 | true =>
  have hsome : Hid (b2 = decide (0 < zf1.l)) := hide (some_iff hzf.out hzl.out)
  obtain ⟨lo', hi', hed, hfin, hzf'⟩ := hzf.out.1 rfl
  have hcn : Hid (cntI (mem D) (lo - d) (hi + d) = cntI (mem D) lo' hi') := hide (by
   obtain ⟨h1, h2⟩ := heb.out.ed hed
   exact fin_cnt hfin (by omega) (by omega))
  clear hzf hzl hed hfin
  have hzf := hide hzf'
  clear hzf'
  go_upto_region 23 with (fail)
  refine wp_region_held_drew (S := (fun w' => (w'.cell? ⟨b10, 0, none⟩ = some (.bool zl.s) ∧ w'.cell? ⟨b10, 1, none⟩ = some (.slice zl.a zl.l zl.c)) ∧ (w'.cell? ⟨b11, 0, none⟩ = some (.bool zh.s) ∧ w'.cell? ⟨b11, 1, none⟩ = some (.slice zh.a zh.l zh.c)) ∧ (w'.cell? ⟨b12, 0, none⟩ = some (.bool sd) ∧ w'.cell? ⟨b12, 1, none⟩ = some (.slice ad ld cd)))) (by kernel_rfl) (⟨⟨(y10.out.below (grow_drew (Below.refl _ _))).c0, (y10.out.below (grow_drew (Below.refl _ _))).c1⟩, ⟨(y11.out.below (grow_drew (Below.refl _ _))).c0, (y11.out.below (grow_drew (Below.refl _ _))).c1⟩, ⟨(y12.out.below (grow_drew (Below.refl _ _))).c0, (y12.out.below (grow_drew (Below.refl _ _))).c1⟩⟩) (fun hHeld => ?_)
  show wpAnyH _ _ _ _ _ 14 _ _ _
  have kW := grow_drew (Below.refl wT.heap.size wT)
  generalize wT.drew = wQ at *
  repeat' first
   | with_reducible exact AllReadyH.nil
   | (
    refine wpAnyH_take (i := 0) (oi := ⟨some 106, _, _, _, _, _⟩) (v := ?_) rfl (by decide +kernel) (by decide +kernel) (by decide +kernel) (fun _ _ _ h => h) (Or.inl ⟨by rfl, ?_⟩) (by assumption) ?_
    rotate_left
    ·intro wq hSw; (try dsimp only at hSw); go_simp; (try with_reducible rfl)
    (try simp only [Act.put, List.setIfInBounds_toArray, List.set_cons_zero, List.set_cons_succ]))
   | (
    refine wpAnyH_take (i := 1) (oi := ⟨some 107, _, _, _, _, _⟩) (v := ?_) rfl (by decide +kernel) (by decide +kernel) (by decide +kernel) (fun _ _ _ h => h) (Or.inl ⟨by rfl, ?_⟩) (by assumption) ?_
    rotate_left
    ·intro wq hSw; (try dsimp only at hSw); go_simp; (try with_reducible rfl)
    (try simp only [Act.put, List.setIfInBounds_toArray, List.set_cons_zero, List.set_cons_succ]))
   | (
    refine wpAnyH_take (i := 2) (oi := ⟨some 108, _, _, _, _, _⟩) (v := ?_) rfl (by decide +kernel) (by decide +kernel) (by decide +kernel) (fun _ _ _ h => h) (Or.inl ⟨by rfl, ?_⟩) (by assumption) ?_
    rotate_left
    ·intro wq hSw; (try dsimp only at hSw); go_simp; (try with_reducible rfl)
    (try simp only [Act.put, List.setIfInBounds_toArray, List.set_cons_zero, List.set_cons_succ]))
   | (
    refine wpAnyH_take (i := 4) (oi := ⟨some 110, _, _, _, _, _⟩) (v := ?_) rfl (by decide +kernel) (by decide +kernel) (by decide +kernel) (fun _ _ _ h => h) (Or.inl ⟨by rfl, ?_⟩) (by assumption) ?_
    rotate_left
    ·intro wq hSw; (try dsimp only at hSw); go_simp; (try with_reducible rfl)
    (try simp only [Act.put, List.setIfInBounds_toArray, List.set_cons_zero, List.set_cons_succ]))
   | (
    refine wpAnyH_take (i := 5) (oi := ⟨some 111, _, _, _, _, _⟩) (v := ?_) rfl (by decide +kernel) (by decide +kernel) (by decide +kernel) (fun _ _ _ h => h) (Or.inl ⟨by rfl, ?_⟩) (by assumption) ?_
    rotate_left
    ·intro wq hSw; (try dsimp only at hSw); go_simp; (try with_reducible rfl)
    (try simp only [Act.put, List.setIfInBounds_toArray, List.set_cons_zero, List.set_cons_succ]))
   | (
    refine wpAnyH_take (i := 8) (oi := ⟨some 105, _, _, _, _, _⟩) (v := ?_) rfl (by decide +kernel) (by decide +kernel) (by decide +kernel) (fun _ _ _ h => h) (Or.inl ⟨by rfl, ?_⟩) (by assumption) ?_
    rotate_left
    ·intro wq hSw; (try dsimp only at hSw); go_simp; (try with_reducible rfl)
    (try simp only [Act.put, List.setIfInBounds_toArray, List.set_cons_zero, List.set_cons_succ]))
   | (
    refine wpAnyH_take (i := 9) (oi := ⟨some 114, _, _, _, _, _⟩) (v := ?_) rfl (by decide +kernel) (by decide +kernel) (by decide +kernel) (fun _ _ _ h => h) (Or.inl ⟨by rfl, ?_⟩) (by assumption) ?_
    rotate_left
    ·intro wq hSw; (try dsimp only at hSw); go_simp; (try with_reducible rfl)
    (try simp only [Act.put, List.setIfInBounds_toArray, List.set_cons_zero, List.set_cons_succ]))
   | (
    refine wpAnyH_take (i := 10) (oi := ⟨some 115, _, _, _, _, _⟩) (v := ?_) rfl (by decide +kernel) (by decide +kernel) (by decide +kernel) (fun _ _ _ h => h) (Or.inl ⟨by rfl, ?_⟩) (by assumption) ?_
    rotate_left
    ·intro wq hSw; (try dsimp only at hSw); go_simp; (try with_reducible rfl)
    (try simp only [Act.put, List.setIfInBounds_toArray, List.set_cons_zero, List.set_cons_succ]))
   | (
    refine wpAnyH_take (i := 13) (oi := ⟨some 22, _, _, _, _, _⟩) (v := ?_) rfl (by decide +kernel) (by decide +kernel) (by decide +kernel) (fun _ _ _ h => h) (Or.inl ⟨by rfl, ?_⟩) (by assumption) ?_
    rotate_left
    ·intro wq hSw; (try dsimp only at hSw); go_simp; (try with_reducible rfl)
    (try simp only [Act.put, List.setIfInBounds_toArray, List.set_cons_zero, List.set_cons_succ]))
   | (refine wpAnyH_ready (rs := [3, 11]) ?_ ?_ ?_; decide +kernel; simp)
   | (refine wpAnyH_ready (rs := [6, 11]) ?_ ?_ ?_; decide +kernel; simp)
   | (refine wpAnyH_ready (rs := [7, 11]) ?_ ?_ ?_; decide +kernel; simp)
   | (refine wpAnyH_ready (rs := [11]) ?_ ?_ ?_; decide +kernel; simp)
   | (refine wpAnyH_ready (rs := [12]) ?_ ?_ ?_; decide +kernel; simp)
   | (refine wpAnyH_ready (rs := [7]) ?_ ?_ ?_; decide +kernel; simp)
   | (refine wpAnyH_ready (rs := [6]) ?_ ?_ ?_; decide +kernel; simp)
   | (refine wpAnyH_ready (rs := [3]) ?_ ?_ ?_; decide +kernel; simp)
   | (
    first
     | (
      refine AllReadyH.cons (i := 3) (o := ⟨some 109, _, _, _, _, _⟩) rfl (fun K hK => ?_) ?_
      go_simp
      go_at_call 39; refine Calls.mono (rsub2_n (hlo.out.below kW).zm (hd.out.below kW).zm (by omega) (by omega)) ?_; rintro e wkA ⟨sA, aA, lA, cA, rfl, hzA, kA, hlA⟩
      try have z21 := z21.below kA
      have kW := grow_step kA kW
      try go_wp2_with fail)
     | (
      refine AllReadyH.cons (i := 6) (o := ⟨some 112, _, _, _, _, _⟩) rfl (fun K hK => ?_) ?_
      go_simp
      go_at_call 37; refine Calls.mono (radd2_n (hhi.out.below kW).zm (hd.out.below kW).zm (by omega) (by omega)) ?_; rintro e wkB ⟨sB, aB, lB, cB, rfl, hzB, kB, hlB⟩
      try have z21 := z21.below kB
      try have hzA := hzA.below kB
      have kW := grow_step kB kW
      try go_wp2_with fail)
     | (
      refine AllReadyH.cons (i := 7) (o := ⟨some 113, _, _, _, _, _⟩) rfl (fun K hK => ?_) ?_
      go_simp
      go_at_call 22; refine Calls.mono (Count_n (zl := ⟨sA, aA, lA, cA⟩) (zh := ⟨sB, aB, lB, cB⟩) (pD.out.below kW) (by omega) hzA.zm (by show lA ≤ _; omega) hzB.zm (by show lB ≤ _; omega)) ?_; rintro e wkE ⟨zk, rfl, hzk, hkl, kE⟩
      rw [hcn.out] at hzk
      try have z21 := z21.below kE
      have kW := grow_step kE kW
      try go_wp2_with fail)
     | (
      refine AllReadyH.cons (i := 11) (o := ⟨some 21, _, _, _, _, _⟩) rfl (fun K hK => ?_) ?_
      obtain ⟨wL, b21, eL, eb21, z21, hb21, kL, kW⟩ := al_b kW (.cells #[.bool false, .slice none 0 0] 38)
      replace z21 : ZB wL b21 false none 0 0 := z21
      try have hzA := hzA.below kL
      try have hzB := hzB.below kL
      try have hzk := hzk.below kL
      go_simp
      rw [eL.out]
      (try simp only [eb21.out]))
     | (
      refine AllReadyH.cons (i := 12) (o := ⟨none, _, _, _, _, _⟩) rfl (fun K hK => ?_) ?_
      have f0 := z21.c0
      have f1 := z21.c1
      have f2 := z21.f 0
      have f3 := z21.f 1
      obtain ⟨w8x, e8, z21, kZ, hzn, hzb⟩ := fst_z kW hb21 z21 zk.s zk.a zk.l zk.c
      have hzk := hzn _ _ _ _ _ hzk
      go_simp
      rw [e8.out]
      clear f0 f1 f2 f3 hzn hzb
      have kW := kZ)
    refine hK.out _ _ ?_ ?_
    ·first | with_reducible exact trivial | ((try dsimp only); exact ⟨⟨(y10.out.below kW).c0, (y10.out.below kW).c1⟩, ⟨(y11.out.below kW).c0, (y11.out.below kW).c1⟩, ⟨(y12.out.below kW).c0, (y12.out.below kW).c1⟩⟩)
    clear hK K hHeld; intro hHeld
    (try simp only [Act.put, List.setIfInBounds_toArray, List.set_cons_zero, List.set_cons_succ]))
  all_goals
   refine wpAnyH_done ?_ ?_ _
   ·decide +kernel
   replace hzk := hide hzk
   have c0 := z21.c0
   have c1 := z21.c1
   have yn := y13.out.below kW
   have c2 := yn.c0
   have c3 := yn.c1
   have hzn2 := hide (hzf.out.below kW)
   have k8 := hide (grow_step kW kw.out)
   have k13 := hide kW
   clear kW hHeld hzA hzB z21 e8 yn
   go_upto_region 24 with (fail)
   generalize w8x = wC at *
   have c01 := c0
   go_wp2_with fail
   refine Calls.mono (ints19_zn (z := zk) (y := zf1) hzk.out hzn2.out) ?_
   rintro e wE ⟨rfl, kE⟩
   have c4 := ((y13.out.below k13.out).below kE).c1
   have kz := hide (grow_step kE k8.out)
   clear c0 c1 c2 c3 kE
   go_wp2
   exact bodyPost_ret (results_tmp rfl _ _ _) rfl ⟨by rw [hsome.out]; simp, kz.out⟩
end Pd
end Go.Proofs.YtmiannlcfommpaaGreat
