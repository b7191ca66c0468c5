/-
 The walks in the words of numbers, and 'known'.
-/
import Derived.Test.YtjhhknfnaobmiaaGreatDoorJ2
namespace Go.Proofs.YtjhhknfnaobmiaaGreatDoor
open Go.RowKit

/-- the slice reads as some limbs of the number n -/
def Nm (w : World) (ad : Option Addr) (len cap : Nat) (n : Int) : Prop := ∃ zs, Rd w ad len cap zs ∧ val zs = n
/-- .. without noughts at the end -/
def Cn (w : World) (ad : Option Addr) (len cap : Nat) (n : Int) : Prop := ∃ zs, Rd w ad len cap zs ∧ Canon zs ∧ val zs = n

theorem Cn.nm {w : World} {ad : Option Addr} {len cap : Nat} {n : Int} (h : Cn w ad len cap n) : Nm w ad len cap n := by
 obtain ⟨zs, h1, _, h3⟩ := h; exact ⟨zs, h1, h3⟩
theorem Nm.below {w w' : World} {ad : Option Addr} {len cap : Nat} {n : Int} (h : Nm w ad len cap n) (hb : Below w.heap.size w w') : Nm w' ad len cap n := by
 obtain ⟨zs, h1, h3⟩ := h; exact ⟨zs, h1.below hb, h3⟩
theorem Cn.below {w w' : World} {ad : Option Addr} {len cap : Nat} {n : Int} (h : Cn w ad len cap n) (hb : Below w.heap.size w w') : Cn w' ad len cap n := by
 obtain ⟨zs, h1, h2, h3⟩ := h; exact ⟨zs, h1.below hb, h2, h3⟩
theorem Nm.nonneg {w : World} {ad : Option Addr} {len cap : Nat} {n : Int} (h : Nm w ad len cap n) : 0 ≤ n := by
 obtain ⟨zs, h1, rfl⟩ := h; exact val_nonneg h1.2.2.2.1
theorem out_cn {w w' : World} {ad : Option Addr} {len cap : Nat} {zs : List Int} {n : Int} (h : Out w w' ad len cap zs) (hc : Canon zs) (hv : val zs = n) : Cn w' ad len cap n := ⟨zs, h.rd, hc, hv⟩

theorem cmp_n {a1 a2 : Option Addr} {l1 c1 l2 c2 : Nat} {m n : Int} {w : World} (h1 : Nm w a1 l1 c1 m) (h2 : Nm w a2 l2 c2 n) :
  Calls Tryz.prog 86 #[.slice a1 l1 c1, .slice a2 l2 c2] w fun e w' => e = .returned (.int .i64 (cmpI m n)) ∧ Below w.heap.size w w' := by
 obtain ⟨xs, h1, rfl⟩ := h1
 obtain ⟨ys, h2, rfl⟩ := h2
 refine (cmp_any h1 h2).mono ?_
 rintro e w' ⟨rfl, q, rfl⟩
 exact ⟨rfl, below_drewN _ _ _⟩

theorem add_n {a1 a2 : Option Addr} {l1 c1 l2 c2 : Nat} {m n : Int} {w : World} (h1 : Nm w a1 l1 c1 m) (h2 : Nm w a2 l2 c2 n) (hl1 : l1 ≤ 1099511627776) (hl2 : l2 ≤ 1099511627776) :
  Calls Tryz.prog 85 #[.slice a1 l1 c1, .slice a2 l2 c2] w fun e w' => ∃ ad len cap, e = .returned (.slice ad len cap) ∧ Cn w' ad len cap (m + n) ∧ Below w.heap.size w w' ∧ len ≤ max l1 l2 + 1 := by
 obtain ⟨xs, h1, rfl⟩ := h1
 obtain ⟨ys, h2, rfl⟩ := h2
 refine (add_any h1 h2 hl1 hl2).mono ?_
 rintro e w' ⟨ad, len, cap, zs, rfl, ho, hc, hv, hl⟩
 exact ⟨ad, len, cap, rfl, out_cn ho hc hv, ho.1, hl⟩

theorem mul_n {a1 a2 : Option Addr} {l1 c1 l2 c2 : Nat} {m n : Int} {w : World} (h1 : Nm w a1 l1 c1 m) (h2 : Nm w a2 l2 c2 n) (hl1 : l1 ≤ 1099511627776) (hl2 : l2 ≤ 1099511627776) :
  Calls Tryz.prog 125 #[.slice a1 l1 c1, .slice a2 l2 c2] w fun e w' => ∃ ad len cap, e = .returned (.slice ad len cap) ∧ Cn w' ad len cap (m * n) ∧ Below w.heap.size w w' ∧ len ≤ l1 + l2 := by
 obtain ⟨xs, h1, rfl⟩ := h1
 obtain ⟨ys, h2, rfl⟩ := h2
 refine (mul_any h1 h2 hl1 hl2).mono ?_
 rintro e w' ⟨ad, len, cap, zs, rfl, ho, hc, hv, hl⟩
 exact ⟨ad, len, cap, rfl, out_cn ho hc hv, ho.1, hl⟩

theorem sub_n {a1 a2 : Option Addr} {l1 c1 l2 c2 : Nat} {m n : Int} {w : World} (h1 : Nm w a1 l1 c1 m) (h2 : Nm w a2 l2 c2 n) (hl1 : l1 ≤ 1099511627776) (hge : n ≤ m) :
  Calls Tryz.prog 87 #[.slice a1 l1 c1, .slice a2 l2 c2] w fun e w' => ∃ ad len cap, e = .returned (.tuple #[.slice ad len cap, .int .i64 0]) ∧ Cn w' ad len cap (m - n) ∧ Below w.heap.size w w' ∧ len ≤ l1 := by
 obtain ⟨xs, h1, rfl⟩ := h1
 obtain ⟨ys, h2, rfl⟩ := h2
 refine (sub_any h1 h2 hl1 hge).mono ?_
 rintro e w' ⟨ad, len, cap, zs, rfl, ho, hc, hv, hl⟩
 exact ⟨ad, len, cap, rfl, out_cn ho hc hv, ho.1, hl⟩

theorem of_n (n : Int) (h0 : 0 ≤ n) (h1 : n < 18446744073709551616) (w : World) :
  Calls Tryz.prog 78 #[.int .u64 n] w fun e w' => ∃ ad len cap, e = .returned (.slice ad len cap) ∧ Cn w' ad len cap n ∧ Below w.heap.size w w' ∧ len ≤ 2 := by
 refine (of_any n h0 h1 w).mono ?_
 rintro e w' ⟨ad, len, cap, zs, rfl, ho, hc, hv, hl⟩
 exact ⟨ad, len, cap, rfl, out_cn ho hc hv, ho.1, hl⟩

theorem text_n {a1 : Option Addr} {l1 c1 : Nat} {n : Int} {w : World} (h1 : Nm w a1 l1 c1 n) (hl : l1 ≤ 1099511627776) (htab : Tab w) :
  Calls Tryz.prog 122 #[.slice a1 l1 c1] w fun e w' => e = .returned (.string ⟨(Lib.decDigits n.toNat).toArray⟩) ∧ Below w.heap.size w w' := by
 obtain ⟨xs, h1, rfl⟩ := h1
 exact text_any h1 hl htab

theorem below_alloc (w : World) (o : Obj) : Below w.heap.size w (w.alloc o) := (Below.refl _ _).alloc (Nat.le_refl _) _

end Go.Proofs.YtjhhknfnaobmiaaGreatDoor
