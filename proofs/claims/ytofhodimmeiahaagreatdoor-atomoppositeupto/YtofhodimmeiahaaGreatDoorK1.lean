/-
  The walks in the words of numbers, and 'known'.
-/
import Derived.Test.YtofhodimmeiahaaGreatDoorJ2
namespace Go.Proofs.YtofhodimmeiahaaGreatDoor
open Go.RowKit

/-- the slice reads as some limbs of the number n -/
def Nm (w : World) (ad : Option Addr) (len cap : Nat) (n : Int) : Prop := ∃ zs, Rd w ad len cap zs ∧ val zs = n
/-- .. without noughts at the end -/
def Cn (w : World) (ad : Option Addr) (len cap : Nat) (n : Int) : Prop := ∃ zs, Rd w ad len cap zs ∧ Canon zs ∧ val zs = n

theorem Cn.nm {w : World} {ad : Option Addr} {len cap : Nat} {n : Int} (h : Cn w ad len cap n) : Nm w ad len cap n := by
  obtain ⟨zs, h1, _, h3⟩ := h; exact ⟨zs, h1, h3⟩
theorem Nm.below {w w' : World} {ad : Option Addr} {len cap : Nat} {n : Int} (h : Nm w ad len cap n) (hb : Below w.heap.size w w') : Nm w' ad len cap n := by
  obtain ⟨zs, h1, h3⟩ := h; exact ⟨zs, h1.below hb, h3⟩
theorem Cn.below {w w' : World} {ad : Option Addr} {len cap : Nat} {n : Int} (h : Cn w ad len cap n) (hb : Below w.heap.size w w') : Cn w' ad len cap n := by
  obtain ⟨zs, h1, h2, h3⟩ := h; exact ⟨zs, h1.below hb, h2, h3⟩
theorem Nm.nonneg {w : World} {ad : Option Addr} {len cap : Nat} {n : Int} (h : Nm w ad len cap n) : 0 ≤ n := by
  obtain ⟨zs, h1, rfl⟩ := h; exact val_nonneg h1.2.2.2.1
theorem out_cn {w w' : World} {ad : Option Addr} {len cap : Nat} {zs : List Int} {n : Int} (h : Out w w' ad len cap zs) (hc : Canon zs) (hv : val zs = n) : Cn w' ad len cap n := ⟨zs, h.rd, hc, hv⟩

theorem cmp_n {a1 a2 : Option Addr} {l1 c1 l2 c2 : Nat} {m n : Int} {w : World} (h1 : Nm w a1 l1 c1 m) (h2 : Nm w a2 l2 c2 n) :
    Calls Tryz.prog 52 #[.slice a1 l1 c1, .slice a2 l2 c2] w fun e w' => e = .returned (.int .i64 (cmpI m n)) ∧ Below w.heap.size w w' := by
  obtain ⟨xs, h1, rfl⟩ := h1
  obtain ⟨ys, h2, rfl⟩ := h2
  refine (cmp_any h1 h2).mono ?_
  rintro e w' ⟨rfl, q, rfl⟩
  exact ⟨rfl, below_drewN _ _ _⟩

theorem add_n {a1 a2 : Option Addr} {l1 c1 l2 c2 : Nat} {m n : Int} {w : World} (h1 : Nm w a1 l1 c1 m) (h2 : Nm w a2 l2 c2 n) (hl1 : l1 ≤ 1099511627776) (hl2 : l2 ≤ 1099511627776) :
    Calls Tryz.prog 65 #[.slice a1 l1 c1, .slice a2 l2 c2] w fun e w' => ∃ ad len cap, e = .returned (.slice ad len cap) ∧ Cn w' ad len cap (m + n) ∧ Below w.heap.size w w' ∧ len ≤ max l1 l2 + 1 := by
  obtain ⟨xs, h1, rfl⟩ := h1
  obtain ⟨ys, h2, rfl⟩ := h2
  refine (add_any h1 h2 hl1 hl2).mono ?_
  rintro e w' ⟨ad, len, cap, zs, rfl, ho, hc, hv, hl⟩
  exact ⟨ad, len, cap, rfl, out_cn ho hc hv, ho.1, hl⟩

theorem mul_n {a1 a2 : Option Addr} {l1 c1 l2 c2 : Nat} {m n : Int} {w : World} (h1 : Nm w a1 l1 c1 m) (h2 : Nm w a2 l2 c2 n) (hl1 : l1 ≤ 1099511627776) (hl2 : l2 ≤ 1099511627776) :
    Calls Tryz.prog 75 #[.slice a1 l1 c1, .slice a2 l2 c2] w fun e w' => ∃ ad len cap, e = .returned (.slice ad len cap) ∧ Cn w' ad len cap (m * n) ∧ Below w.heap.size w w' ∧ len ≤ l1 + l2 := by
  obtain ⟨xs, h1, rfl⟩ := h1
  obtain ⟨ys, h2, rfl⟩ := h2
  refine (mul_any h1 h2 hl1 hl2).mono ?_
  rintro e w' ⟨ad, len, cap, zs, rfl, ho, hc, hv, hl⟩
  exact ⟨ad, len, cap, rfl, out_cn ho hc hv, ho.1, hl⟩

theorem sub_n {a1 a2 : Option Addr} {l1 c1 l2 c2 : Nat} {m n : Int} {w : World} (h1 : Nm w a1 l1 c1 m) (h2 : Nm w a2 l2 c2 n) (hl1 : l1 ≤ 1099511627776) (hge : n ≤ m) :
    Calls Tryz.prog 66 #[.slice a1 l1 c1, .slice a2 l2 c2] w fun e w' => ∃ ad len cap, e = .returned (.tuple #[.slice ad len cap, .int .i64 0]) ∧ Cn w' ad len cap (m - n) ∧ Below w.heap.size w w' ∧ len ≤ l1 := by
  obtain ⟨xs, h1, rfl⟩ := h1
  obtain ⟨ys, h2, rfl⟩ := h2
  refine (sub_any h1 h2 hl1 hge).mono ?_
  rintro e w' ⟨ad, len, cap, zs, rfl, ho, hc, hv, hl⟩
  exact ⟨ad, len, cap, rfl, out_cn ho hc hv, ho.1, hl⟩

theorem sub_n_neg {a1 a2 : Option Addr} {l1 c1 l2 c2 : Nat} {m n : Int} {w : World} (h1 : Nm w a1 l1 c1 m) (h2 : Nm w a2 l2 c2 n) (hlt : m < n) :
    Calls Tryz.prog 66 #[.slice a1 l1 c1, .slice a2 l2 c2] w fun e w' => e = .returned (.tuple #[.slice none 0 0, .int .i64 10]) ∧ Below w.heap.size w w' := by
  obtain ⟨xs, h1, rfl⟩ := h1
  obtain ⟨ys, h2, rfl⟩ := h2
  refine (sub_neg h1 h2 hlt).mono ?_
  rintro e w' ⟨rfl, q, rfl⟩
  exact ⟨rfl, below_drewN _ _ _⟩

theorem of_n (n : Int) (h0 : 0 ≤ n) (h1 : n < 18446744073709551616) (w : World) :
    Calls Tryz.prog 48 #[.int .u64 n] w fun e w' => ∃ ad len cap, e = .returned (.slice ad len cap) ∧ Cn w' ad len cap n ∧ Below w.heap.size w w' ∧ len ≤ 2 := by
  refine (of_any n h0 h1 w).mono ?_
  rintro e w' ⟨ad, len, cap, zs, rfl, ho, hc, hv, hl⟩
  exact ⟨ad, len, cap, rfl, out_cn ho hc hv, ho.1, hl⟩

theorem text_n {a1 : Option Addr} {l1 c1 : Nat} {n : Int} {w : World} (h1 : Nm w a1 l1 c1 n) (hl : l1 ≤ 1099511627776) (htab : Tab w) :
    Calls Tryz.prog 89 #[.slice a1 l1 c1] w fun e w' => e = .returned (.string ⟨(Lib.decDigits n.toNat).toArray⟩) ∧ Below w.heap.size w w' := by
  obtain ⟨xs, h1, rfl⟩ := h1
  exact text_any h1 hl htab

theorem tl_one_of {ys : List Int} {l2 : Nat} (hl : ys.length = l2) (hL : Limbs ys) (h0 : 0 < val ys) (h1 : val ys < 4294967296) : tl ys l2 = 1 := by
  have h2 := trim_length ys
  rw [hl] at h2
  have hc := canon_trim hL
  have hv := val_trim ys
  have h3 := canon_len hc (k := 1) (by rw [hv]; simpa [pw] using h1)
  have h4 : trim ys ≠ [] := fun h => by rw [h] at hv; have : val [] = 0 := rfl; omega
  have h5 : 0 < (trim ys).length := List.length_pos_iff.2 h4
  omega

theorem divmod_n1 {a1 a2 : Option Addr} {l1 c1 l2 c2 : Nat} {m n : Int} {w : World} (h1 : Nm w a1 l1 c1 m) (h2 : Nm w a2 l2 c2 n) (hl1 : l1 ≤ 1099511627776) (hn0 : 0 < n) (hn1 : n < 4294967296) (hge : n ≤ m) :
    Calls Tryz.prog 64 #[.slice a1 l1 c1, .slice a2 l2 c2] w fun e w' => ∃ aq lq cq ar lr cr, e = .returned (.tuple #[.slice aq lq cq, .slice ar lr cr, .int .i64 0]) ∧ Cn w' aq lq cq (m / n) ∧ Cn w' ar lr cr (m % n) ∧ Below w.heap.size w w' ∧ lq ≤ l1 ∧ lr ≤ 2 := by
  obtain ⟨xs, h1, rfl⟩ := h1
  obtain ⟨ys, h2, rfl⟩ := h2
  refine (divmod_limb h1 h2 hl1 hge (tl_one_of h2.1 h2.2.2.2.1 hn0 hn1)).mono ?_
  rintro e w' ⟨aq, lq, cq, zq, ar, lr, cr, zr, rfl, hoq, hcq, hvq, hor, hcr, hvr, hlq, hlr, _⟩
  exact ⟨aq, lq, cq, ar, lr, cr, rfl, out_cn hoq hcq hvq, out_cn hor hcr hvr, hoq.1, hlq, hlr⟩

/-- a literal list of limbs -/
theorem cn_lit (w : World) (xs : List Int) (n : Nat) (hn : xs.length = n) (hc : Canon xs) (hb : n ≤ 9223372036854775807) : Cn (w.alloc (.cells (U xs) 100)) (some ⟨w.heap.size, 0, none⟩) n n (val xs) := by
  have h := (row_alloc w xs).rd hc.1 (off := 0) (len := n) (cap := n) (by omega) (Nat.le_refl _) hb
  rw [List.drop_zero, List.take_of_length_le (by omega)] at h
  exact ⟨xs, h, hc, rfl⟩

theorem below_alloc (w : World) (o : Obj) : Below w.heap.size w (w.alloc o) := (Below.refl _ _).alloc (Nat.le_refl _) _

theorem known_text : Lib.decDigits 42949672960 = [52, 50, 57, 52, 57, 54, 55, 50, 57, 54, 48] := by
  have h := dec_pad 9 42 949672960 (by decide) (by decide)
  rw [show 42 * 10 ^ 9 + 949672960 = 42949672960 from rfl, dec_step 42 (by decide), dec_small (42 / 10) (by decide)] at h
  rw [h]
  decide

def knownS : ByteArray := ⟨#[52, 50, 57, 52, 57, 54, 55, 50, 57, 54, 48]⟩
theorem known_ok : okText knownS := by
  refine ⟨by decide, by decide, ?_⟩
  have : ∀ i, i < 11 → 48 ≤ bt knownS i ∧ bt knownS i ≤ 57 := by decide
  exact this
theorem known_dr : dr knownS 0 knownS.size = 42949672960 := by decide

theorem known_c1 : Canon [0, 10] := ⟨fun z hz => by simp at hz; rcases hz with rfl | rfl <;> decide, by decide⟩
theorem known_c2 : Canon [1431655765, 3] := ⟨fun z hz => by simp at hz; rcases hz with rfl | rfl <;> decide, by decide⟩
theorem known_c3 : Canon [1] := ⟨fun z hz => by simp at hz; subst hz; decide, by decide⟩

end Go.Proofs.YtofhodimmeiahaaGreatDoor
