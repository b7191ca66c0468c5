/-
  The walks in the words of numbers, and 'known'.
-/
import Derived.Test.YtfmljpibkopmiaaDoorT5
namespace Go.Proofs.YtfmljpibkopmiaaDoor
open Go.RowKit

/-- the slice reads as some limbs of the number n -/
def Nm (w : World) (ad : Option Addr) (len cap : Nat) (n : Int) : Prop := ∃ zs, Rd w ad len cap zs ∧ val zs = n
/-- .. without noughts at the end -/
def Cn (w : World) (ad : Option Addr) (len cap : Nat) (n : Int) : Prop := ∃ zs, Rd w ad len cap zs ∧ Canon zs ∧ val zs = n

theorem Cn.nm {w : World} {ad : Option Addr} {len cap : Nat} {n : Int} (h : Cn w ad len cap n) : Nm w ad len cap n := by
  obtain ⟨zs, h1, _, h3⟩ := h; exact ⟨zs, h1, h3⟩
theorem Nm.below {w w' : World} {ad : Option Addr} {len cap : Nat} {n : Int} (h : Nm w ad len cap n) (hb : Below w.heap.size w w') : Nm w' ad len cap n := by
  obtain ⟨zs, h1, h3⟩ := h; exact ⟨zs, h1.below hb, h3⟩
theorem Cn.below {w w' : World} {ad : Option Addr} {len cap : Nat} {n : Int} (h : Cn w ad len cap n) (hb : Below w.heap.size w w') : Cn w' ad len cap n := by
  obtain ⟨zs, h1, h2, h3⟩ := h; exact ⟨zs, h1.below hb, h2, h3⟩
theorem Nm.nonneg {w : World} {ad : Option Addr} {len cap : Nat} {n : Int} (h : Nm w ad len cap n) : 0 ≤ n := by
  obtain ⟨zs, h1, rfl⟩ := h; exact val_nonneg h1.2.2.2.1
theorem out_cn {w w' : World} {ad : Option Addr} {len cap : Nat} {zs : List Int} {n : Int} (h : Out w w' ad len cap zs) (hc : Canon zs) (hv : val zs = n) : Cn w' ad len cap n := ⟨zs, h.rd, hc, hv⟩

theorem cmp_n {a1 a2 : Option Addr} {l1 c1 l2 c2 : Nat} {m n : Int} {w : World} (h1 : Nm w a1 l1 c1 m) (h2 : Nm w a2 l2 c2 n) :
    Calls Tryd.prog 28 #[.slice a1 l1 c1, .slice a2 l2 c2] w fun e w' => e = .returned (.int .i64 (cmpI m n)) ∧ Below w.heap.size w w' := by
  obtain ⟨xs, h1, rfl⟩ := h1
  obtain ⟨ys, h2, rfl⟩ := h2
  refine (cmp_any h1 h2).mono ?_
  rintro e w' ⟨rfl, q, rfl⟩
  exact ⟨rfl, below_drewN _ _ _⟩

theorem mul_n {a1 a2 : Option Addr} {l1 c1 l2 c2 : Nat} {m n : Int} {w : World} (h1 : Nm w a1 l1 c1 m) (h2 : Nm w a2 l2 c2 n) (hl1 : l1 ≤ 1099511627776) (hl2 : l2 ≤ 1099511627776) :
    Calls Tryd.prog 22 #[.slice a1 l1 c1, .slice a2 l2 c2] w fun e w' => ∃ ad len cap, e = .returned (.slice ad len cap) ∧ Cn w' ad len cap (m * n) ∧ Below w.heap.size w w' ∧ len ≤ l1 + l2 := by
  obtain ⟨xs, h1, rfl⟩ := h1
  obtain ⟨ys, h2, rfl⟩ := h2
  refine (mul_any h1 h2 hl1 hl2).mono ?_
  rintro e w' ⟨ad, len, cap, zs, rfl, ho, hc, hv, hl⟩
  exact ⟨ad, len, cap, rfl, out_cn ho hc hv, ho.1, hl⟩

theorem of_n (n : Int) (h0 : 0 ≤ n) (h1 : n < 18446744073709551616) (w : World) :
    Calls Tryd.prog 25 #[.int .u64 n] w fun e w' => ∃ ad len cap, e = .returned (.slice ad len cap) ∧ Cn w' ad len cap n ∧ Below w.heap.size w w' ∧ len ≤ 2 := by
  refine (of_any n h0 h1 w).mono ?_
  rintro e w' ⟨ad, len, cap, zs, rfl, ho, hc, hv, hl⟩
  exact ⟨ad, len, cap, rfl, out_cn ho hc hv, ho.1, hl⟩

theorem same_n {a1 a2 : Option Addr} {l1 c1 l2 c2 : Nat} {m n : Int} {w : World} (h1 : Cn w a1 l1 c1 m) (h2 : Cn w a2 l2 c2 n) :
    Calls Tryd.prog 13 #[.slice a1 l1 c1, .slice a2 l2 c2] w fun e w' => e = .returned (.bool (decide (m = n))) ∧ Below w.heap.size w w' := by
  obtain ⟨xs, h1, k1, rfl⟩ := h1
  obtain ⟨ys, h2, k2, rfl⟩ := h2
  refine (same_any h1 h2).mono ?_
  rintro e w' ⟨rfl, q, rfl⟩
  refine ⟨ret_bool ?_, below_drewN _ _ _⟩
  by_cases h : xs = ys
  · subst h; simp
  · rw [decide_eq_false h, eq_comm, decide_eq_false_iff_not]
    exact fun hv => h (canon_inj k1 k2 hv)

/-- two canonical readings of one number are the same -/
theorem same_t {a1 a2 : Option Addr} {l1 c1 l2 c2 : Nat} {m n : Int} {w : World} (h1 : Cn w a1 l1 c1 m) (h2 : Cn w a2 l2 c2 n) (he : m = n) :
    Calls Tryd.prog 13 #[.slice a1 l1 c1, .slice a2 l2 c2] w fun e w' => e = .returned (.bool true) ∧ Below w.heap.size w w' := by
  refine (same_n h1 h2).mono ?_
  rintro e w' ⟨rfl, hb⟩
  exact ⟨ret_bool (by simp [he]), hb⟩

theorem text_n {a1 : Option Addr} {l1 c1 : Nat} {n : Int} {w : World} (h1 : Nm w a1 l1 c1 n) (hl : l1 ≤ 1099511627776) (htab : Tab w) :
    Calls Tryd.prog 27 #[.slice a1 l1 c1] w fun e w' => e = .returned (.string ⟨(Lib.decDigits n.toNat).toArray⟩) ∧ Below w.heap.size w w' := by
  obtain ⟨xs, h1, rfl⟩ := h1
  exact text_any h1 hl htab

theorem parse_n (s : ByteArray) (w : World) (hs : s.size ≤ 1099511627776) (hok : okText s) :
    Calls Tryd.prog 26 #[.string s] w fun e w' => ∃ ad len cap, e = .returned (.tuple #[.slice ad len cap, .int .i64 0]) ∧ Cn w' ad len cap (dr s 0 s.size : Int) ∧ Below w.heap.size w w' ∧ len ≤ s.size := by
  refine (parse_yes s w hs hok).mono ?_
  rintro e w' ⟨ad, len, cap, zs, rfl, ho, hc, hv, hl⟩
  exact ⟨ad, len, cap, rfl, out_cn ho hc hv, ho.1, hl⟩

theorem tl_one_of {ys : List Int} {l2 : Nat} (hl : ys.length = l2) (hL : Limbs ys) (h0 : 0 < val ys) (h1 : val ys < 4294967296) : tl ys l2 = 1 := by
  have h2 := trim_length ys
  rw [hl] at h2
  have hc := canon_trim hL
  have hv := val_trim ys
  have h3 := canon_len hc (k := 1) (by rw [hv]; simpa [pw] using h1)
  have h4 : trim ys ≠ [] := fun h => by rw [h] at hv; have : val [] = 0 := rfl; omega
  have h5 : 0 < (trim ys).length := List.length_pos_iff.2 h4
  omega

theorem divmod_n1 {a1 a2 : Option Addr} {l1 c1 l2 c2 : Nat} {m n : Int} {w : World} (h1 : Nm w a1 l1 c1 m) (h2 : Nm w a2 l2 c2 n) (hl1 : l1 ≤ 1099511627776) (hn0 : 0 < n) (hn1 : n < 4294967296) (hge : n ≤ m) :
    Calls Tryd.prog 16 #[.slice a1 l1 c1, .slice a2 l2 c2] w fun e w' => ∃ aq lq cq ar lr cr, e = .returned (.tuple #[.slice aq lq cq, .slice ar lr cr, .int .i64 0]) ∧ Cn w' aq lq cq (m / n) ∧ Cn w' ar lr cr (m % n) ∧ Below w.heap.size w w' ∧ lq ≤ l1 ∧ lr ≤ 2 := by
  obtain ⟨xs, h1, rfl⟩ := h1
  obtain ⟨ys, h2, rfl⟩ := h2
  refine (divmod_limb h1 h2 hl1 hge (tl_one_of h2.1 h2.2.2.2.1 hn0 hn1)).mono ?_
  rintro e w' ⟨aq, lq, cq, zq, ar, lr, cr, zr, rfl, hoq, hcq, hvq, hor, hcr, hvr, hlq, hlr, _⟩
  exact ⟨aq, lq, cq, ar, lr, cr, rfl, out_cn hoq hcq hvq, out_cn hor hcr hvr, hoq.1, hlq, hlr⟩

/-- a literal list of limbs -/
theorem cn_lit (w : World) (xs : List Int) (n : Nat) (hn : xs.length = n) (hc : Canon xs) (hb : n ≤ 9223372036854775807) : Cn (w.alloc (.cells (U xs) 32)) (some ⟨w.heap.size, 0, none⟩) n n (val xs) := by
  have h := (row_alloc w xs).rd hc.1 (off := 0) (len := n) (cap := n) (by omega) (Nat.le_refl _) hb
  rw [List.drop_zero, List.take_of_length_le (by omega)] at h
  exact ⟨xs, h, hc, rfl⟩

theorem below_alloc (w : World) (o : Obj) : Below w.heap.size w (w.alloc o) := (Below.refl _ _).alloc (Nat.le_refl _) _

theorem known_text : Lib.decDigits 42949672960 = [52, 50, 57, 52, 57, 54, 55, 50, 57, 54, 48] := by
  have h := dec_pad 9 42 949672960 (by decide) (by decide)
  rw [show 42 * 10 ^ 9 + 949672960 = 42949672960 from rfl, dec_step 42 (by decide), dec_small (42 / 10) (by decide)] at h
  rw [h]
  decide

def knownS : ByteArray := ⟨#[52, 50, 57, 52, 57, 54, 55, 50, 57, 54, 48]⟩
theorem known_ok : okText knownS := by
  refine ⟨by decide, by decide, ?_⟩
  have : ∀ i, i < 11 → 48 ≤ bt knownS i ∧ bt knownS i ≤ 57 := by decide
  exact this
theorem known_dr : dr knownS 0 knownS.size = 42949672960 := by decide

theorem known_c1 : Canon [0, 10] := ⟨fun z hz => by simp at hz; rcases hz with rfl | rfl <;> decide, by decide⟩
theorem known_c2 : Canon [1431655765, 3] := ⟨fun z hz => by simp at hz; rcases hz with rfl | rfl <;> decide, by decide⟩
theorem known_c3 : Canon [1] := ⟨fun z hz => by simp at hz; subst hz; decide, by decide⟩

set_option maxRecDepth 100000 in
set_option maxHeartbeats 1600000 in
theorem known_any (w : World) (htab : Tab w) :
    Calls Tryd.prog 12 #[] w fun e w' => e = .returned (.bool true) ∧ Below w.heap.size w w' := by
  go_enter Tryd.func12, Tryd.ntmps12
  go_wp2_with fail
  refine (of_n 4294967296 (by decide) (by decide) w).mono ?_
  rintro e w1 ⟨a1, l1, c1, rfl, n1, b1, k1⟩
  go_wp2_with fail
  refine (of_n 10 (by decide) (by decide) w1).mono ?_
  rintro e w2 ⟨a2, l2, c2, rfl, n2, b2, k2⟩
  replace n1 := n1.below b2
  replace b2 := b1.trans (b2.mono b1.size)
  clear b1
  go_wp2_with fail
  refine (mul_n n1.nm n2.nm (by omega) (by omega)).mono ?_
  rintro e w3 ⟨ap, lp, cp, rfl, np, b3, kp⟩
  replace b3 := b2.trans (b3.mono b2.size)
  clear b2 n1 n2
  go_wp2_with fail
  refine (of_n 3 (by decide) (by decide) w3).mono ?_
  rintro e w4 ⟨a3, l3, c3, rfl, n3, b4, k3⟩
  replace np := np.below b4
  replace b4 := b3.trans (b4.mono b3.size)
  clear b3
  go_wp2_with fail
  refine (divmod_n1 np.nm n3.nm (by omega) (by decide) (by decide) (by decide)).mono ?_
  rintro e w5 ⟨aq, lq, cq, ar, lr, cr, rfl, nq, nr, b5, kq, kr⟩
  replace np := np.below b5
  replace b5 := b4.trans (b5.mono b4.size)
  clear b4 n3
  go_wp2_with fail
  refine (parse_n knownS w5 (by decide) known_ok).mono ?_
  rintro e w6 ⟨an, ln, cn, rfl, nn, b6, kn⟩
  rw [known_dr] at nn
  replace np := np.below b6
  replace nq := nq.below b6
  replace nr := nr.below b6
  replace b6 := b5.trans (b6.mono b5.size)
  clear b5
  go_wp2_with fail
  have x1 := cn_lit w6 [0, 10] 2 rfl known_c1 (by decide)
  have y1 := below_alloc w6 (.cells (U [0, 10]) 32)
  refine (same_t (np.below y1) x1 (by decide)).mono ?_
  rintro e w7 ⟨rfl, b7⟩
  replace b7 : Below w6.heap.size w6 w7 := y1.trans (b7.mono y1.size)
  replace np := np.below b7
  replace nq := nq.below b7
  replace nr := nr.below b7
  replace nn := nn.below b7
  replace b7 := b6.trans (b7.mono b6.size)
  clear x1 y1 b6
  go_wp2_with fail
  refine (text_n np.nm (by omega) (htab.below b7)).mono ?_
  rintro e w8 ⟨rfl, b8⟩
  rw [show ((4294967296 * 10 : Int)).toNat = 42949672960 from by decide, known_text]
  replace np := np.below b8
  replace nq := nq.below b8
  replace nr := nr.below b8
  replace nn := nn.below b8
  replace b8 := b7.trans (b8.mono b7.size)
  clear b7
  go_wp2_with fail
  have x1 := cn_lit w8 [1431655765, 3] 2 rfl known_c2 (by decide)
  have y1 := below_alloc w8 (.cells (U [1431655765, 3]) 32)
  refine (same_t (nq.below y1) x1 (by decide)).mono ?_
  rintro e w9 ⟨rfl, b9⟩
  replace b9 : Below w8.heap.size w8 w9 := y1.trans (b9.mono y1.size)
  replace np := np.below b9
  replace nr := nr.below b9
  replace nn := nn.below b9
  replace b9 := b8.trans (b9.mono b8.size)
  clear x1 y1 b8 nq
  go_wp2_with fail
  have x1 := cn_lit w9 [1] 1 rfl known_c3 (by decide)
  have y1 := below_alloc w9 (.cells (U [1]) 32)
  refine (same_t (nr.below y1) x1 (by decide)).mono ?_
  rintro e w10 ⟨rfl, b10⟩
  replace b10 : Below w9.heap.size w9 w10 := y1.trans (b10.mono y1.size)
  replace np := np.below b10
  replace nn := nn.below b10
  replace b10 := b9.trans (b10.mono b9.size)
  clear x1 y1 b9 nr
  go_wp2_with fail
  refine (same_t nn np (by decide)).mono ?_
  rintro e w11 ⟨rfl, b11⟩
  replace b11 := b10.trans (b11.mono b10.size)
  go_wp2_with fail
  go_ret
  exact ⟨rfl, b11⟩
end Go.Proofs.YtfmljpibkopmiaaDoor
