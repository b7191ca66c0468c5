/-
 Several texts in one: T2, T3, T4, T5, K1, Kp, K2, D4, D5, D6.
-/
import Derived.Test.YtagjfhipjbpoiaaQ05
import Derived.Test.YtagjfhipjbpoiaaQ03
import Derived.Deep.LoopGhost
import Derived.Test.YtagjfhipjbpoiaaQ01
namespace Go.Proofs.Ytagjfhipjbpoiaa
open Go.RowKit

theorem Out.alloc {w0 w : World} {ad : Option Addr} {n cap : Nat} {X : List Int} (h : Out w0 w ad n cap X) (o : Obj) : Out w0 (w.alloc o) ad n cap X :=
 h.keep (h.1.alloc h.1.size _) (fun _ hb => Below.heap_alloc _ _ _ (h.lt hb).2)

/-- append of one limb -/
theorem run_append_one {w0 w : World} {ad : Option Addr} {n cap : Nat} {xs : List Int} (hO : Out w0 w ad n cap xs) (ty : TypeId) (x : Int) (h0 : 0 ≤ x) (h1 : x < 4294967296) (hbig : n + 1 ≤ 35184372088832) :
  ∃ v' w', (Builtin.append_ #[23, 23] ty #[.slice ad n cap, .slice (some ⟨w.heap.size, 0, none⟩) 1 1]).run Try.prog (w.alloc (.cells #[.int .u32 x] 70)) = .ok v' w' ∧
   ∃ ad' cap', v' = .slice ad' (n + 1) cap' ∧ Out w0 w' ad' (n + 1) cap' (xs ++ [x]) ∧ (∀ k, k < w.heap.size → blk ad ≠ some k → w'.heap[k]? = w.heap[k]?) ∧ w.heap.size ≤ w'.heap.size ∧ (∀ k, blk ad' = some k → blk ad = some k ∨ w.heap.size ≤ k) := by
 obtain ⟨v', w', hr, ad', cap', hv, ho, hg, hbk⟩ := run_append_out (hO.alloc (.cells #[.int .u32 x] 70)) ty ⟨w.heap.size, 0, none⟩ 1 1 [x] rfl (fun z hz => by rw [List.mem_singleton.1 hz]; exact ⟨h0, h1⟩) (fun j hj => by
  obtain rfl : j = 0 := by omega
  rw [Addr.add_lit]
  exact (row_alloc w [x]).cell (i := 0) (by simp)) hbig
 refine ⟨v', w', hr, ad', cap', hv, ho, fun k hk hne => ?_, ?_, fun k hk => ?_⟩
 ·rw [hg.block k (by simp; omega) (fun e => hne e.symm)]
  exact Below.heap_alloc _ _ _ hk
 ·have := hg.size; simp at this; omega
 ·rcases hbk k hk with h | h
  ·exact .inl h
  ·exact .inr (by simp at h; omega)

theorem lz_snoc (ps : List Int) (x : Int) : lz (ps ++ [x]) ps.length = x := by simp [lz]

end Go.Proofs.Ytagjfhipjbpoiaa

namespace Go.Proofs.Ytagjfhipjbpoiaa
open Go.RowKit

end Go.Proofs.Ytagjfhipjbpoiaa

namespace Go.Proofs.Ytagjfhipjbpoiaa
open Go.RowKit

end Go.Proofs.Ytagjfhipjbpoiaa

namespace Go.Proofs.Ytagjfhipjbpoiaa
open Go.RowKit

theorem val_snoc (Y : List Int) (cr : Int) : val (Y ++ [cr]) = val Y + cr * pw Y.length := by
 unfold val
 rw [List.length_append, List.length_singleton, vl_succ]
 have e1 : vl (Y ++ [cr]) Y.length = vl Y Y.length := vl_congr (fun i hi => by simp [lz, List.getD, List.getElem?_append_left hi])
 rw [e1, lz_snoc]

theorem canon_len {zs : List Int} (h : Canon zs) {k : Nat} (hv : val zs < pw k) : zs.length ≤ k := by
 rcases Nat.lt_or_ge k zs.length with h1 | h1
 ·have h2 := canon_low h (by omega)
  have h3 : pw k ≤ pw (zs.length - 1) := pw_mono (by omega)
  omega
 ·exact h1

end Go.Proofs.Ytagjfhipjbpoiaa

namespace Go.Proofs.Ytagjfhipjbpoiaa
open Go.RowKit

/-- the slice reads as some limbs of the number n -/
def Nm (w : World) (ad : Option Addr) (len cap : Nat) (n : Int) : Prop := ∃ zs, Rd w ad len cap zs ∧ val zs = n
/-- .. without noughts at the end -/
def Cn (w : World) (ad : Option Addr) (len cap : Nat) (n : Int) : Prop := ∃ zs, Rd w ad len cap zs ∧ Canon zs ∧ val zs = n

theorem Cn.nm {w : World} {ad : Option Addr} {len cap : Nat} {n : Int} (h : Cn w ad len cap n) : Nm w ad len cap n := by
 obtain ⟨zs, h1, _, h3⟩ := h; exact ⟨zs, h1, h3⟩
theorem Nm.below {w w' : World} {ad : Option Addr} {len cap : Nat} {n : Int} (h : Nm w ad len cap n) (hb : Below w.heap.size w w') : Nm w' ad len cap n := by
 obtain ⟨zs, h1, h3⟩ := h; exact ⟨zs, h1.below hb, h3⟩
theorem Cn.below {w w' : World} {ad : Option Addr} {len cap : Nat} {n : Int} (h : Cn w ad len cap n) (hb : Below w.heap.size w w') : Cn w' ad len cap n := by
 obtain ⟨zs, h1, h2, h3⟩ := h; exact ⟨zs, h1.below hb, h2, h3⟩
theorem Nm.nonneg {w : World} {ad : Option Addr} {len cap : Nat} {n : Int} (h : Nm w ad len cap n) : 0 ≤ n := by
 obtain ⟨zs, h1, rfl⟩ := h; exact val_nonneg h1.2.2.2.1
theorem out_cn {w w' : World} {ad : Option Addr} {len cap : Nat} {zs : List Int} {n : Int} (h : Out w w' ad len cap zs) (hc : Canon zs) (hv : val zs = n) : Cn w' ad len cap n := ⟨zs, h.rd, hc, hv⟩

theorem cmp_n {a1 a2 : Option Addr} {l1 c1 l2 c2 : Nat} {m n : Int} {w : World} (h1 : Nm w a1 l1 c1 m) (h2 : Nm w a2 l2 c2 n) :
  Calls Try.prog 72 #[.slice a1 l1 c1, .slice a2 l2 c2] w fun e w' => e = .returned (.int .i64 (cmpI m n)) ∧ Below w.heap.size w w' := by
 obtain ⟨xs, h1, rfl⟩ := h1
 obtain ⟨ys, h2, rfl⟩ := h2
 refine (cmp_any h1 h2).mono ?_
 rintro e w' ⟨rfl, q, rfl⟩
 exact ⟨rfl, below_drewN _ _ _⟩

theorem add_n {a1 a2 : Option Addr} {l1 c1 l2 c2 : Nat} {m n : Int} {w : World} (h1 : Nm w a1 l1 c1 m) (h2 : Nm w a2 l2 c2 n) (hl1 : l1 ≤ 1099511627776) (hl2 : l2 ≤ 1099511627776) :
  Calls Try.prog 74 #[.slice a1 l1 c1, .slice a2 l2 c2] w fun e w' => ∃ ad len cap, e = .returned (.slice ad len cap) ∧ Cn w' ad len cap (m + n) ∧ Below w.heap.size w w' ∧ len ≤ max l1 l2 + 1 := by
 obtain ⟨xs, h1, rfl⟩ := h1
 obtain ⟨ys, h2, rfl⟩ := h2
 refine (add_any h1 h2 hl1 hl2).mono ?_
 rintro e w' ⟨ad, len, cap, zs, rfl, ho, hc, hv, hl⟩
 exact ⟨ad, len, cap, rfl, out_cn ho hc hv, ho.1, hl⟩

theorem mul_n {a1 a2 : Option Addr} {l1 c1 l2 c2 : Nat} {m n : Int} {w : World} (h1 : Nm w a1 l1 c1 m) (h2 : Nm w a2 l2 c2 n) (hl1 : l1 ≤ 1099511627776) (hl2 : l2 ≤ 1099511627776) :
  Calls Try.prog 76 #[.slice a1 l1 c1, .slice a2 l2 c2] w fun e w' => ∃ ad len cap, e = .returned (.slice ad len cap) ∧ Cn w' ad len cap (m * n) ∧ Below w.heap.size w w' ∧ len ≤ l1 + l2 := by
 obtain ⟨xs, h1, rfl⟩ := h1
 obtain ⟨ys, h2, rfl⟩ := h2
 refine (mul_any h1 h2 hl1 hl2).mono ?_
 rintro e w' ⟨ad, len, cap, zs, rfl, ho, hc, hv, hl⟩
 exact ⟨ad, len, cap, rfl, out_cn ho hc hv, ho.1, hl⟩

theorem sub_n {a1 a2 : Option Addr} {l1 c1 l2 c2 : Nat} {m n : Int} {w : World} (h1 : Nm w a1 l1 c1 m) (h2 : Nm w a2 l2 c2 n) (hl1 : l1 ≤ 1099511627776) (hge : n ≤ m) :
  Calls Try.prog 75 #[.slice a1 l1 c1, .slice a2 l2 c2] w fun e w' => ∃ ad len cap, e = .returned (.tuple #[.slice ad len cap, .int .i64 0]) ∧ Cn w' ad len cap (m - n) ∧ Below w.heap.size w w' ∧ len ≤ l1 := by
 obtain ⟨xs, h1, rfl⟩ := h1
 obtain ⟨ys, h2, rfl⟩ := h2
 refine (sub_any h1 h2 hl1 hge).mono ?_
 rintro e w' ⟨ad, len, cap, zs, rfl, ho, hc, hv, hl⟩
 exact ⟨ad, len, cap, rfl, out_cn ho hc hv, ho.1, hl⟩

theorem of_n (n : Int) (h0 : 0 ≤ n) (h1 : n < 18446744073709551616) (w : World) :
  Calls Try.prog 77 #[.int .u64 n] w fun e w' => ∃ ad len cap, e = .returned (.slice ad len cap) ∧ Cn w' ad len cap n ∧ Below w.heap.size w w' ∧ len ≤ 2 := by
 refine (of_any n h0 h1 w).mono ?_
 rintro e w' ⟨ad, len, cap, zs, rfl, ho, hc, hv, hl⟩
 exact ⟨ad, len, cap, rfl, out_cn ho hc hv, ho.1, hl⟩

theorem below_alloc (w : World) (o : Obj) : Below w.heap.size w (w.alloc o) := (Below.refl _ _).alloc (Nat.le_refl _) _

end Go.Proofs.Ytagjfhipjbpoiaa

namespace Go.Proofs.Ytagjfhipjbpoiaa
open Go.RowKit

theorem below_alloc' {w0 w : World} (h : Below w0.heap.size w0 w) (o : Obj) : Below w0.heap.size w0 (w.alloc o) := h.alloc h.size o

/-- the same, of any base: what was there at w1 is there at w2 -/
theorem grow_alloc {w0 w : World} (h : Below w0.heap.size w0 w) (o : Obj) : Below w0.heap.size w0 (w.alloc o) := below_alloc' h o
theorem grow_drew {w0 w : World} (h : Below w0.heap.size w0 w) : Below w0.heap.size w0 w.drew := Below.drew h
theorem grow_drewN {w0 w : World} (h : Below w0.heap.size w0 w) (n : Nat) : Below w0.heap.size w0 (w.drewN n) := Below.trans h (below_drewN _ _ _)
theorem grow_step {w0 w1 w2 : World} (k : Below w1.heap.size w1 w2) (h : Below w0.heap.size w0 w1) : Below w0.heap.size w0 w2 := h.trans (k.mono h.size)
end Go.Proofs.Ytagjfhipjbpoiaa

namespace Go.Proofs.Ytagjfhipjbpoiaa
open Go.RowKit

theorem cmp_lt {a1 a2 : Option Addr} {l1 c1 l2 c2 : Nat} {m n : Int} {w : World} (h1 : Nm w a1 l1 c1 m) (h2 : Nm w a2 l2 c2 n) (he : m < n) :
  Calls Try.prog 72 #[.slice a1 l1 c1, .slice a2 l2 c2] w fun e w' => e = .returned (.int .i64 (-1)) ∧ Below w.heap.size w w' := by
 refine (cmp_n h1 h2).mono ?_
 rintro e w' ⟨rfl, hb⟩
 exact ⟨ret_int (cmpI_lt he), hb⟩

theorem len32_lay (x : Int) (w : World) (h0 : 0 ≤ x) (h1 : x ≤ 4294967295) :
  Calls Try.prog 91 #[.int .u32 x] w fun e w' => e = .returned (.int .i64 (Lib.bitLen x.toNat)) ∧ w' = w := Any.bits_Len32 Try.lays128 x w h0 h1

theorem bitAux_spec (f : Nat) : ∀ x : Nat, x < 2 ^ f → x < 2 ^ Lib.bitLenAux f x ∧ (x ≠ 0 → 0 < Lib.bitLenAux f x ∧ 2 ^ (Lib.bitLenAux f x - 1) ≤ x) := by
 induction f with
 | zero => intro x hx; simp at hx; subst hx; simp [Lib.bitLenAux]
 | succ f ih =>
  intro x hx
  unfold Lib.bitLenAux
  by_cases h : x = 0
  ·subst h; simp
  ·rw [if_neg h]
   obtain ⟨h1, h2⟩ := ih (x / 2) (by rw [Nat.pow_succ] at hx; omega)
   refine ⟨?_, fun _ => ⟨by omega, ?_⟩⟩
   ·rw [Nat.add_comm, Nat.pow_succ]; omega
   ·rw [Nat.add_sub_cancel_left]
    by_cases h3 : x / 2 = 0
    ·have e : Lib.bitLenAux f (x / 2) = 0 := by rw [h3]; cases f <;> simp [Lib.bitLenAux]
     rw [e]; simp; omega
    ·obtain ⟨h4, h5⟩ := h2 h3
     obtain ⟨g, hg⟩ : ∃ g, Lib.bitLenAux f (x / 2) = g + 1 := ⟨_, (Nat.succ_pred_eq_of_pos h4).symm⟩
     rw [hg] at h5 ⊢
     rw [Nat.add_sub_cancel] at h5
     rw [Nat.pow_succ]
     omega

theorem bitLen_spec (x : Nat) (hx : x < 4294967296) : x < 2 ^ Lib.bitLen x ∧ (x ≠ 0 → 0 < Lib.bitLen x ∧ 2 ^ (Lib.bitLen x - 1) ≤ x) :=
 bitAux_spec 64 x (Nat.lt_of_lt_of_le hx (by decide))

theorem bitLen_le32 (x : Nat) (hx : x < 4294967296) : Lib.bitLen x ≤ 32 := by
 by_cases h : x = 0
 ·subst h; decide
 ·obtain ⟨_, h2⟩ := bitLen_spec x hx
  obtain ⟨h3, h4⟩ := h2 h
  rcases Nat.lt_or_ge 32 (Lib.bitLen x) with h5 | h5
  ·have : 2 ^ 32 ≤ 2 ^ (Lib.bitLen x - 1) := Nat.pow_le_pow_right (by decide) (by omega)
   have e : (2 : Nat) ^ 32 = 4294967296 := by decide
   omega
  ·exact h5

/-- how many bits a canonical list has -/
def bitsL (X : List Int) : Nat := if X.length = 0 then 0 else 32 * (X.length - 1) + Lib.bitLen (lz X (X.length - 1)).toNat

set_option maxRecDepth 100000 in
set_option maxHeartbeats 800000 in
theorem bits_any {a1 : Option Addr} {l1 c1 : Nat} {xs : List Int} {w : World} (h1 : Rd w a1 l1 c1 xs) (hl : l1 ≤ 1099511627776) :
  Calls Try.prog 78 #[.slice a1 l1 c1] w fun e w' => e = .returned (.int .i64 (bitsL (trim xs))) ∧ w = w' := by
 have t1 := h1.trim
 have hb1 := tl_le xs l1
 have hL := t1.2.2.2.1
 generalize hX : trim xs = X at *
 clear hX
 generalize hn : tl xs l1 = n1 at *
 have HN := hide hn
 clear hn
 have hXl : X.length = n1 := t1.1
 by_cases h0 : n1 = 0
 ·subst h0
  have hbl := hide (show bitsL X = 0 from by unfold bitsL; rw [if_pos hXl])
  clear hXl
  go_enter Try.func78, Try.ntmps78
  go_wp2_with fail
  refine (bare_any h1).mono ?_
  rintro e w' ⟨rfl, rfl⟩
  rw [unhide HN]
  go_wp2_with fail
  go_ret
  rw [unhide hbl]
  exact ⟨rfl, rfl⟩
 ·obtain ⟨b, off, rfl, g⟩ := t1.some (by omega)
  obtain ⟨m, rfl⟩ : ∃ m, n1 = m + 1 := ⟨n1 - 1, by omega⟩
  have hbl := hide (show bitsL X = 32 * m + Lib.bitLen (lz X m).toNat from by unfold bitsL; rw [hXl, if_neg (by omega)]; rfl)
  have gm := g m (by omega)
  have hbd := lz_bd hL m
  have h32 : Lib.bitLen (lz X m).toNat ≤ 32 := bitLen_le32 _ (by omega)
  have hne : (((m : Int) + 1) == 0) = false := by rw [beq_eq_false_iff_ne]; omega
  clear hXl h0 g
  go_enter Try.func78, Try.ntmps78
  go_wp2_with fail
  refine (bare_any h1).mono ?_
  rintro e w' ⟨rfl, rfl⟩
  rw [unhide HN]
  go_wp2_with fail
  refine (len32_lay (lz X m) w hbd.1 (by omega)).mono ?_
  rintro e w' ⟨rfl, hw⟩
  have HW := hide hw.symm
  clear hw
  go_wp2_with fail
  go_ret
  rw [unhide hbl]
  exact ⟨ret_int (by omega), unhide HW⟩

/-- 0 bits: the number 0 -/
theorem bitsL_zero {X : List Int} (h : Canon X) : bitsL X = 0 ↔ val X = 0 := by
 rw [canon_zero h]
 constructor
 ·intro hb
  unfold bitsL at hb
  split at hb
  ·exact List.eq_nil_of_length_eq_zero (by assumption)
  ·rename_i h0
   have h1 := h.2 (by omega)
   have h2 := lz_bd h.1 (X.length - 1)
   obtain ⟨_, h3⟩ := bitLen_spec (lz X (X.length - 1)).toNat (by omega)
   have := (h3 (by omega)).1
   omega
 ·rintro rfl; rfl

theorem bits_n {a1 : Option Addr} {l1 c1 : Nat} {n : Int} {w : World} (h1 : Nm w a1 l1 c1 n) (hl : l1 ≤ 1099511627776) :
  Calls Try.prog 78 #[.slice a1 l1 c1] w fun e w' => ∃ k : Nat, e = .returned (.int .i64 k) ∧ (k = 0 ↔ n = 0) ∧ Below w.heap.size w w' := by
 obtain ⟨xs, h1, rfl⟩ := h1
 refine (bits_any h1 hl).mono ?_
 rintro e w' ⟨rfl, rfl⟩
 refine ⟨_, rfl, ?_, Below.refl _ _⟩
 rw [bitsL_zero (canon_trim h1.2.2.2.1), val_trim]
end Go.Proofs.Ytagjfhipjbpoiaa

namespace Go.Proofs.Ytagjfhipjbpoiaa
open Go.RowKit

end Go.Proofs.Ytagjfhipjbpoiaa

namespace Go.Proofs.Ytagjfhipjbpoiaa
open Go.RowKit

end Go.Proofs.Ytagjfhipjbpoiaa

namespace Go.Proofs.Ytagjfhipjbpoiaa
open Go.RowKit
theorem Cn.len {w : World} {ad : Option Addr} {len cap : Nat} {n : Int} (h : Cn w ad len cap n) : n = 0 ↔ len = 0 := by
 obtain ⟨zs, h1, h2, rfl⟩ := h
 rw [canon_zero h2]
 constructor
 ·rintro rfl; exact h1.1.symm
 ·intro h; exact List.eq_nil_of_length_eq_zero (h1.1.trans h)

end Go.Proofs.Ytagjfhipjbpoiaa
