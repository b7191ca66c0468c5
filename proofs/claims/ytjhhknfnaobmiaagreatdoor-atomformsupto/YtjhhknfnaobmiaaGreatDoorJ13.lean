/-
  Several texts in one: R9, RG, ZR.
-/
import Derived.Test.YtjhhknfnaobmiaaGreatDoorR6
import Derived.Test.YtjhhknfnaobmiaaGreatDoorR7
import Derived.Test.YtjhhknfnaobmiaaGreatDoorJ4
import Derived.Test.YtjhhknfnaobmiaaGreatDoorZ8
import Derived.Test.YtjhhknfnaobmiaaGreatDoorY1
import Derived.Test.YtjhhknfnaobmiaaGreatDoorZ9
namespace Go.Proofs.YtjhhknfnaobmiaaGreatDoor
open Go.RowKit

theorem quo_bd {rv x n : Int} (h0 : 0 ≤ rv) (h1 : rv < n) (hx0 : 0 ≤ x) (hx1 : x < 4294967296) : 0 ≤ (rv * 4294967296 + x) / n ∧ (rv * 4294967296 + x) / n < 4294967296 ∧ 0 ≤ (rv * 4294967296 + x) % n ∧ (rv * 4294967296 + x) % n < n ∧ rv * 4294967296 + x = n * ((rv * 4294967296 + x) / n) + (rv * 4294967296 + x) % n := by
 have hn : 0 < n := by omega
 refine ⟨Int.ediv_nonneg (by omega) (by omega), ?_, Int.emod_nonneg _ (by omega), Int.emod_lt_of_pos _ hn, (Int.mul_ediv_add_emod _ _).symm⟩
 refine Int.ediv_lt_of_lt_mul hn ?_
 have : (rv + 1) * 4294967296 ≤ n * 4294967296 := Int.mul_le_mul_of_nonneg_right (by omega) (by decide)
 rw [Int.mul_comm 4294967296 n]
 omega

set_option maxRecDepth 100000 in
set_option maxHeartbeats 3200000 in
theorem refquo_any {a1 : Option Addr} {l1 c1 : Nat} {xs : List Int} {n : Int} {w : World} (h1 : Rd w a1 l1 c1 xs) (hl1 : l1 ≤ 17179869184) (hn0 : 0 < n) (hn1 : n < 4294967296) :
  Calls Tryz.prog 137 #[.slice a1 l1 c1, .int .u32 n] w fun e w' => ∃ aq lq cq zq, e = .returned (.tuple #[.slice aq lq cq, .int .u32 (val xs % n)]) ∧ Out w w' aq lq cq zq ∧ Canon zq ∧ val zq = val xs / n ∧ lq ≤ l1 := by
 have hXL := h1.2.2.2.1
 have HXl := hide h1.1
 have hmk := run_mk l1 (by omega)
 have k2 := below_alloc w (.cells (U (List.replicate l1 0)) 73)
 have rq := row_alloc w (List.replicate l1 0)
 go_enter Tryz.func137, Tryz.ntmps137
 go_wp2_with fail
 go_loopw [7, 8] (fun lf i wr => ∃ (j : Nat) (H qv rv : Int) (Q : List Int), j ≤ l1 ∧ i = .int .i64 ((j : Int) - 1) ∧ lf = .int .u64 rv ∧ 0 ≤ rv ∧ rv < n ∧ Q.length = l1 ∧ Limbs Q ∧ Row wr w.heap.size Q ∧ Below w.heap.size w wr ∧ Hid (∀ i, i < j → lz Q i = 0) ∧ Hid (val Q = pw j * qv) ∧ Hid (val xs = vl xs j + pw j * H) ∧ Hid (H = n * qv + rv)) (fun _ i _ => (intOf i + 1).toNat)
 case atStart =>
  refine ⟨l1, 0, 0, 0, List.replicate l1 0, Nat.le_refl _, rfl, rfl, Int.le_refl _, hn0, List.length_replicate, Limbs.replicate _, rq, k2, ?_, ?_, ?_, ?_⟩
  ·show ∀ _, _; intro i _; exact lz_replicate _ _
  ·show _ = _; unfold val; rw [vl_replicate, Int.mul_zero]
  ·show _ = _; rw [Int.mul_zero, Int.add_zero]; unfold val; rw [unhide HXl]
  ·show _ = _; simp
 case round =>
  obtain ⟨j, H, qv, rv, Q, hj, rfl, rfl, hr0, hr1, hQl, hQL, hQ, kr, HZ, HQ, HX, HH⟩ := hrel
  clear hmk rq k2
  by_cases hj0 : 0 < j
  ·obtain ⟨j, rfl⟩ : ∃ i, j = i + 1 := ⟨j - 1, by omega⟩
   have Bx := lz_bd hXL j
   have q1 := h1.below kr
   have hcell := hQ.cell (i := j) (by omega)
   have hfr := hQ.frozen j
   have hz := (unhide HZ) j (by omega)
   obtain ⟨_, _, _, _, h5⟩ := q1
   rcases h5 with ⟨_, h6, _⟩ | ⟨a', rfl, h6 | ⟨b, off, rfl, _, hc⟩⟩
   ·omega
   ·omega
   ·have hcx := hc j (by omega)
    clear hc
    have hxj : vl xs (j + 1) = vl xs j + lz xs j * pw j := vl_succ _ _
    generalize lz xs j = x at *
    have qb := quo_bd hr0 hr1 Bx.1 Bx.2
    have HX2 : Hid (val xs = vl xs j + pw j * (H * 4294967296 + x)) := by
     show _ = _
     rw [HX.out, hxj, pw_succ, Int.mul_add, Int.mul_comm x (pw j), Int.mul_comm 4294967296 (pw j), Int.mul_assoc, Int.mul_comm 4294967296 H]
     omega
    have HH2 : Hid (H * 4294967296 + x = n * (qv * 4294967296 + (rv * 4294967296 + x) / n) + (rv * 4294967296 + x) % n) := by
     show _ = _
     have h9 := qb.2.2.2.2
     rw [HH.out, Int.add_mul, Int.mul_add, Int.mul_assoc]
     omega
    have HZ2 : Hid (∀ i, i < j → lz (Q.set j ((rv * 4294967296 + x) / n)) i = 0) := by
     show ∀ _, _
     intro i hi
     rw [lz_set _ _ _ _ (by omega), if_neg (by omega)]
     exact (unhide HZ) i (by omega)
    have HQ2 : Hid (val (Q.set j ((rv * 4294967296 + x) / n)) = pw j * (qv * 4294967296 + (rv * 4294967296 + x) / n)) := by
     show _ = _
     have := vl_set (zs := Q) (m := j) (n := Q.length) ((rv * 4294967296 + x) / n) (by omega) (by omega)
     unfold val
     rw [List.length_set, this, hz, Int.sub_zero]
     have h9 : vl Q Q.length = pw (j + 1) * qv := HQ.out
     rw [h9, pw_succ, Int.mul_add, Int.mul_comm ((rv * 4294967296 + x) / n) (pw j), Int.mul_comm 4294967296 (pw j), Int.mul_assoc, Int.mul_comm 4294967296 qv]
    have qb0 := qb.1
    have qb1 := qb.2.1
    have qb2 := qb.2.2.1
    have qb3 := qb.2.2.2.1
    have r7 := hQ.set j ((rv * 4294967296 + x) / n)
    clear qb hxj
    go_wp2_with fail
    exact ⟨⟨j, _, _, _, _, by omega, rfl, rfl, qb2, qb3, by rw [List.length_set]; exact hQl, hQL.set j qb0 qb1, r7, kr.setCell (Nat.le_refl _) _, HZ2, HQ2, HX2, HH2⟩, by simp [intOf] <;> omega⟩
  ·obtain rfl : j = 0 := by omega
   have hH : val xs = H := by rw [HX.out]; simp [vl, pw]
   have hq0 : val Q = qv := by rw [HQ.out]; simp [pw]
   have hdm := Int.ediv_emod_unique (a := val xs) (b := n) (r := rv) (q := qv) hn0
   have hqr := hdm.2 ⟨by rw [hH, HH.out]; omega, hr0, hr1⟩
   have HD := hide hqr
   clear hdm hqr
   have rQ := hQ.rd hQL (off := 0) (len := l1) (cap := l1) (by omega) (Nat.le_refl _) (by omega)
   rw [List.drop_zero, List.take_of_length_le (by omega)] at rQ
   go_wp2_with fail
   refine (trim_any rQ (by omega)).mono ?_
   rintro e w4 ⟨rfl, ho4, -⟩
   have t1 := tl_le Q l1
   go_wp2_with fail
   refine bodyPost_ret (results_tmp2 rfl _ _ _) rfl ?_
   refine ⟨_, _, _, _, ?_, ho4.outer kr, canon_trim hQL, ?_, by omega⟩
   ·rw [(unhide HD).2]; rfl
   ·rw [val_trim, hq0]; exact (unhide HD).1.symm

end Go.Proofs.YtjhhknfnaobmiaaGreatDoor

namespace Go.Proofs.YtjhhknfnaobmiaaGreatDoor
open Go.RowKit

theorem gcdI_both {m n : Int} (hm : 0 < m) (hn : 0 < n) (h1 : m % 2 = 0) (h2 : n % 2 = 0) : gcdI m n = 2 * gcdI (m / 2) (n / 2) := by
 obtain ⟨a, rfl⟩ : ∃ a : Nat, m = 2 * (a : Int) := ⟨(m / 2).toNat, by omega⟩
 obtain ⟨b, rfl⟩ : ∃ b : Nat, n = 2 * (b : Int) := ⟨(n / 2).toNat, by omega⟩
 unfold gcdI
 rw [show (2 * (a : Int)).toNat = 2 * a from by omega, show (2 * (b : Int)).toNat = 2 * b from by omega, show (2 * (a : Int) / 2).toNat = a from by omega, show (2 * (b : Int) / 2).toNat = b from by omega, Nat.gcd_mul_left]
 push_cast
 rfl
theorem gcdI_half {m n : Int} (hm : 0 < m) (hn : 0 < n) (h1 : m % 2 = 0) (h2 : n % 2 = 1) : gcdI (m / 2) n = gcdI m n := by
 obtain ⟨a, rfl⟩ : ∃ a : Nat, m = 2 * (a : Int) := ⟨(m / 2).toNat, by omega⟩
 unfold gcdI
 rw [show (2 * (a : Int)).toNat = 2 * a from by omega, show (2 * (a : Int) / 2).toNat = a from by omega]
 have hc : Nat.Coprime 2 n.toNat := by
  show Nat.gcd 2 n.toNat = 1
  rw [Nat.gcd_rec, show n.toNat % 2 = 1 from by omega]
  rfl
 rw [Nat.Coprime.gcd_mul_left_cancel _ hc]
theorem gcdI_less {m n : Int} (hn : 0 < n) (h : n ≤ m) : gcdI (m - n) n = gcdI m n := by
 unfold gcdI
 obtain ⟨a, rfl⟩ := Int.eq_ofNat_of_zero_le (show 0 ≤ m from by omega)
 obtain ⟨b, rfl⟩ := Int.eq_ofNat_of_zero_le (Int.le_of_lt hn)
 rw [show ((a : Int) - (b : Int)).toNat = a - b from by omega, Int.toNat_natCast, Int.toNat_natCast, Nat.gcd_sub_self_left (by omega)]
theorem gcdI_zl {n : Int} (h : 0 ≤ n) : gcdI 0 n = n := by rw [gcdI_comm]; exact gcdI_zero h
/-- the value of an answer of the call's own, not below 0, of at most L limbs -/
def PnG (w wr : World) (v : Value) (n : Int) (L : Nat) : Prop := ∃ (ad : Option Addr) (l c : Nat) (zs : List Int), v = .slice ad l c ∧ Out w wr ad l c zs ∧ Canon zs ∧ val zs = n ∧ l ≤ L

theorem val_par {zs : List Int} (h : 0 < zs.length) : lz zs 0 % 2 = val zs % 2 := by
 cases zs with
 | nil => simp at h
 | cons x r =>
  rw [val_cons]
  show x % 2 = _
  omega

theorem PnG.open {w wr : World} {v : Value} {n : Int} {L : Nat} (h : PnG w wr v n L) (hn : 0 < n) :
  ∃ (b l c : Nat) (zs : List Int), v = .slice (some ⟨b, 0, none⟩) l c ∧ 0 < l ∧ l ≤ L ∧ wr.cell? ⟨b, 0, none⟩ = some (.int .u32 (lz zs 0)) ∧ Out w wr (some ⟨b, 0, none⟩) l c zs ∧ Canon zs ∧ val zs = n ∧ lz zs 0 % 2 = n % 2 ∧ 0 ≤ lz zs 0 ∧ lz zs 0 < 4294967296 := by
 obtain ⟨ad, l, c, zs, rfl, ho, hc, hv, hl⟩ := h
 have hlen := ho.rd.1
 have h0 : 0 < l := by
  rcases Nat.eq_zero_or_pos l with h | h
  ·subst h
   rw [List.eq_nil_of_length_eq_zero hlen] at hv
   have : val [] = 0 := rfl
   omega
  ·exact h
 obtain ⟨_, ⟨_, h2, _⟩ | ⟨b, xs, rfl, hb, hr, hlx, hnx, hle, hm, hz⟩⟩ := id ho
 ·omega
 ·have hcell := hr.cell (i := 0) (by omega)
  have e : lz zs 0 = lz xs 0 := by rw [hz, lz_take, if_pos h0]
  have hb := lz_bd hlx 0
  exact ⟨b, l, c, zs, rfl, h0, hl, by rw [e]; exact hcell, ho, hc, hv, by rw [val_par (by omega), hv], by rw [e]; exact hb.1, by rw [e]; exact hb.2⟩

theorem PnG.zero {w wr : World} {v : Value} {n : Int} {L : Nat} (h : PnG w wr v n L) (hn : n = 0) : ∃ ad c, v = .slice ad 0 c := by
 obtain ⟨ad, l, c, zs, rfl, ho, hc, hv, hl⟩ := h
 rcases Nat.eq_zero_or_pos zs.length with h | h
 ·rw [ho.rd.1] at h
  subst h
  exact ⟨ad, c, rfl⟩
 ·have h2 := canon_low hc h
  have := pw_pos (zs.length - 1)
  omega

theorem PnG.later {w wr w' : World} {v : Value} {n : Int} {L : Nat} (h : PnG w wr v n L) (hb : Below wr.heap.size wr w') : PnG w w' v n L := by
 obtain ⟨ad, l, c, zs, rfl, ho, hc, hv, hl⟩ := h
 exact ⟨ad, l, c, zs, rfl, ho.later hb, hc, hv, hl⟩

theorem pw_two (L : Nat) : pw L = ((2 ^ (32 * L) : Nat) : Int) := by
 induction L with
 | zero => rfl
 | succ L ih =>
  rw [pw_succ, ih, show 32 * (L + 1) = 32 * L + 32 from by omega, Nat.pow_add, show 2 ^ 32 = 4294967296 from rfl, Int.natCast_mul]
  omega
theorem twos_bd {m A : Int} {t L : Nat} (hm : 0 < m) (h : m * 2 ^ t ≤ A) (hA : A < pw L) : t < 32 * L := by
 have h1 : 1 * (2 : Int) ^ t ≤ m * 2 ^ t := Int.mul_le_mul_of_nonneg_right (by omega) (Int.pow_nonneg (by decide))
 rw [pw_two] at hA
 have h2 : ((2 ^ t : Nat) : Int) < ((2 ^ (32 * L) : Nat) : Int) := by
  push_cast
  push_cast at hA
  omega
 have h3 : 2 ^ t < 2 ^ (32 * L) := by omega
 exact (Nat.pow_lt_pow_iff_right (by decide)).1 h3

theorem half_bd {m A : Int} {t : Nat} (h0 : m % 2 = 0) (h : m * 2 ^ t ≤ A) : m / 2 * 2 ^ (t + 1) ≤ A := by
 have e : m / 2 * 2 ^ (t + 1) = m * 2 ^ t := by
  rw [Int.pow_succ, Int.mul_comm (2 ^ t) 2, ← Int.mul_assoc]
  congr 1
  omega
 rw [e]
 exact h
theorem both_two {m n G : Int} {t : Nat} (hm : 0 < m) (hn : 0 < n) (h1 : m % 2 = 0) (h2 : n % 2 = 0) (h : G = 2 ^ t * gcdI m n) : G = 2 ^ (t + 1) * gcdI (m / 2) (n / 2) := by
 rw [h, gcdI_both hm hn h1 h2, Int.pow_succ, Int.mul_assoc]

theorem pow_le {n : Int} (hn : 0 ≤ n) {j k : Nat} (h : j ≤ k) : n * 2 ^ j ≤ n * 2 ^ k := by
 obtain ⟨d, rfl⟩ : ∃ d, k = j + d := ⟨k - j, by omega⟩
 rw [Int.pow_add, ← Int.mul_assoc]
 have h1 : (1 : Int) ≤ 2 ^ d := by
  have : (0 : Int) < 2 ^ d := Int.pow_pos (by decide)
  omega
 have h2 : n * 2 ^ j * 1 ≤ n * 2 ^ j * 2 ^ d := Int.mul_le_mul_of_nonneg_left h1 (Int.mul_nonneg hn (Int.pow_nonneg (by decide)))
 omega

def TwosRel (w : World) (G A : Int) (L : Nat) (gk : Nat) (x y t : Value) (wr : World) : Prop :=
 ∃ (m n : Int) (k : Nat), PnG w wr x m L ∧ PnG w wr y n L ∧ t = .int .i64 k ∧ 0 < m ∧ 0 < n ∧ Hid (G = 2 ^ k * gcdI m n) ∧ Hid (m * 2 ^ k ≤ A) ∧ Below w.heap.size w wr ∧ gk = m.toNat

def OddRel (w : World) (g : Int) (L : Nat) (gk : Nat) (x y : Value) (wr : World) : Prop :=
 ∃ (m n : Int), PnG w wr x m L ∧ PnG w wr y n L ∧ 0 ≤ m ∧ 0 < n ∧ (m % 2 = 1 ∨ n % 2 = 1) ∧ Hid (gcdI m n = g) ∧ Below w.heap.size w wr ∧ gk = (m + n).toNat

theorem tm2 {x : Int} (h : 0 ≤ x) : x.tmod 2 = x % 2 := Int.tmod_eq_emod_of_nonneg h

set_option maxRecDepth 100000 in
set_option maxHeartbeats 3200000 in
theorem refgcd_L {a1 a2 : Option Addr} {l1 c1 l2 c2 : Nat} {xs ys : List Int} {w : World} {L : Nat} (h1 : Rd w a1 l1 c1 xs) (h2 : Rd w a2 l2 c2 ys) (hL1 : l1 ≤ L) (hL3 : l2 ≤ L) (hL2 : L ≤ 17179869184) :
  Calls Tryz.prog 101 #[.slice a1 l1 c1, .slice a2 l2 c2] w fun e w' => ∃ ad len cap zs, e = .returned (.slice ad len cap) ∧ Out w w' ad len cap zs ∧ Canon zs ∧ val zs = gcdI (val xs) (val ys) ∧ len ≤ L := by
 have hx0 := val_nonneg h1.2.2.2.1
 have hy0 := val_nonneg h2.2.2.2.1
 have hA : val xs < pw L := by
  have h := (vl_bd h1.2.2.2.1 l1).2
  have h3 : pw l1 ≤ pw L := pw_mono hL1
  unfold val
  rw [h1.1]
  omega
 go_enter Tryz.func101, Tryz.ntmps101
 go_wp2_with fail
 refine (trim_any h1 (by omega)).mono ?_
 rintro e w1 ⟨rfl, ho1, -⟩
 have k1 := ho1.1
 go_wp2_with fail
 refine (trim_any (h2.below k1) (by omega)).mono ?_
 rintro e w2 ⟨rfl, ho2, -⟩
 have k2 : Below w.heap.size w w2 := grow_step ho2.1 k1
 have t1 := tl_le xs l1
 have t2 := tl_le ys l2
 have pX : PnG w w2 (.slice (some ⟨w.heap.size, 0, none⟩) (tl xs l1) (tl xs l1)) (val xs) L := ⟨_, _, _, _, rfl, ho1.later ho2.1, canon_trim h1.2.2.2.1, val_trim xs, by omega⟩
 have pY : PnG w w2 (.slice (some ⟨w1.heap.size, 0, none⟩) (tl ys l2) (tl ys l2)) (val ys) L := ⟨_, _, _, _, rfl, ho2.outer k1, canon_trim h2.2.2.2.1, val_trim ys, by omega⟩
 clear ho1 ho2
 generalize tl xs l1 = n1 at *
 generalize tl ys l2 = n2 at *
 by_cases hz1 : val xs = 0
 ·obtain ⟨ad, c, e⟩ := pX.zero hz1
  have e2 := (Value.slice.inj e).2.1
  subst e2
  clear e
  go_wp2_with fail
  go_ret
  obtain ⟨ad, l, c, zs, e, ho, hc, hv, hl⟩ := pY
  exact ⟨ad, l, c, zs, by rw [e]; rfl, ho, hc, by rw [hv, hz1, gcdI_zl hy0], hl⟩
 by_cases hz2 : val ys = 0
 ·obtain ⟨ad, c, e⟩ := pY.zero hz2
  have e2 := (Value.slice.inj e).2.1
  subst e2
  clear e
  obtain ⟨b, l, c, zs, e, hl0, -⟩ := pX.open (by omega)
  have hn1 : 0 < n1 := by have := (Value.slice.inj e).2.1; omega
  have hnb1 : ((n1 : Int) == 0) = false := by rw [beq_eq_false_iff_ne]; omega
  clear e
  go_wp2_with fail
  go_ret
  obtain ⟨ad, l, c, zs, e, ho, hc, hv, hl⟩ := pX
  exact ⟨ad, l, c, zs, by rw [e]; rfl, ho, hc, by rw [hv, hz2, gcdI_zero hx0], hl⟩
 have hn1 : 0 < n1 := by
  obtain ⟨b, l, c, zs, e, hl0, -⟩ := pX.open (by omega)
  have := (Value.slice.inj e).2.1; omega
 have hn2 : 0 < n2 := by
  obtain ⟨b, l, c, zs, e, hl0, -⟩ := pY.open (by omega)
  have := (Value.slice.inj e).2.1; omega
 have hnb1 : ((n1 : Int) == 0) = false := by rw [beq_eq_false_iff_ne]; omega
 have hnb2 : ((n2 : Int) == 0) = false := by rw [beq_eq_false_iff_ne]; omega
 have hstart : Hid (TwosRel w (gcdI (val xs) (val ys)) (val xs) L (val xs).toNat (.slice (some ⟨w.heap.size, 0, none⟩) n1 n1) (.slice (some ⟨w1.heap.size, 0, none⟩) n2 n2) (.int .i64 0) w2) :=
  ⟨val xs, val ys, 0, pX, pY, rfl, by omega, by omega, (by show _ = _; rw [Int.pow_zero, Int.one_mul]), (by show _ ≤ _; rw [Int.pow_zero, Int.mul_one]; exact Int.le_refl _), k2, rfl⟩
 have HA := hide hA
 clear pX pY hA
 go_wp2_with fail
 go_loopg [5, 6, 7] (val xs).toNat (fun gk x y t wr => TwosRel w (gcdI (val xs) (val ys)) (val xs) L gk x y t wr)
 case atStart => exact unhide hstart
 case round =>
  obtain ⟨m, n, k, hm, hn, rfl, hm0, hn0, HG, HB, kr, rfl⟩ := hrel
  clear hstart
  have hk := twos_bd hm0 HB.out HA.out
  obtain ⟨bx, lx, cx, zx, rfl, hlx0, hlxL, cx0, ox, ccx, vx, px, bx0, bx1⟩ := hm.open hm0
  obtain ⟨by', ly, cy, zy, rfl, hly0, hlyL, cy0, oy, ccy, vy, py, by0, by1⟩ := hn.open hn0
  generalize lz zx 0 = u at *
  generalize lz zy 0 = v at *
  have tu := tm2 bx0
  have tv := tm2 by0
  by_cases hev : u % 2 = 0 ∧ v % 2 = 0
  ·obtain ⟨hu, hv⟩ := hev
   rw [hu] at tu
   rw [hv] at tv
   have HG2 := hide (both_two hm0 hn0 (by omega) (by omega) HG.out)
   have HB2 := hide (half_bd (m := m) (by omega) HB.out)
   clear HG HB
   go_wp2_with fail
   refine (refquo_any ox.rd (by omega) (by decide) (by decide)).mono ?_
   rintro e w3 ⟨aq, lq, cq, zq, rfl, hoq, hcq, hvq, hlq⟩
   have k3 := hoq.1
   replace oy := oy.later k3
   replace kr3 := grow_step k3 kr
   go_wp2_with fail
   refine (refquo_any oy.rd (by omega) (by decide) (by decide)).mono ?_
   rintro e w4 ⟨ap, lp, cp, zp, rfl, hop, hcp, hvp, hlp⟩
   have k4 := hop.1
   have q1 : PnG w w4 (.slice aq lq cq) (m / 2) L := ⟨_, _, _, _, rfl, (hoq.outer kr).later k4, hcq, by rw [hvq, vx], by omega⟩
   have q2 : PnG w w4 (.slice ap lp cp) (n / 2) L := ⟨_, _, _, _, rfl, hop.outer kr3, hcp, by rw [hvp, vy], by omega⟩
   have kr4 := grow_step k4 kr3
   clear hvq hvp
   go_wp2_with fail
   go_roundg (m / 2).toNat
   case measure => omega
   case rel => exact ⟨m / 2, n / 2, k + 1, q1, q2, by go_num, by omega, by omega, HG2, HB2, kr4, rfl⟩
  ·have hodd : m % 2 = 1 ∨ n % 2 = 1 := by omega
   have hGle : Hid (2 ^ k * gcdI m n ≤ val xs) := by
    show _ ≤ _
    rw [← HG.out]
    unfold gcdI
    have := Nat.gcd_le_left (m := (val xs).toNat) (val ys).toNat (by omega)
    omega
   have hst2 : Hid (OddRel w (gcdI m n) L (m + n).toNat (.slice (some ⟨bx, 0, none⟩) lx cx) (.slice (some ⟨by', 0, none⟩) ly cy) wr) := ⟨m, n, hm, hn, by omega, hn0, hodd, rfl, kr, rfl⟩
   have hcases : (u % 2 = 1) ∨ (u % 2 = 0 ∧ v % 2 = 1) := by omega
   clear HB hm hn
   rcases hcases with hu | ⟨hu, hv⟩
   all_goals (
    rw [hu] at tu
    try rw [hv] at tv
    clear hev hodd
    go_wp2_with fail
    clear cx0 cy0
    go_loopg [5, 6] (m + n).toNat (fun gk x y wr => OddRel w (gcdI m n) L gk x y wr)
    case atStart => exact unhide hst2
    case round =>
     obtain ⟨m1, n1', hm1, hn1', hm10, hn10, hodd1, HG1, kr1, rfl⟩ := hrel
     clear hst2
     by_cases hz : m1 = 0
     ·obtain ⟨ax0, cx0', rfl⟩ := hm1.zero hz
      have HGn : Hid (2 ^ k * n1' ≤ val xs ∧ gcdI (val xs) (val ys) = 2 ^ k * n1') := by
       have e : gcdI m n = n1' := by rw [← HG1.out, hz]; exact gcdI_zl (by omega)
       show _ ∧ _
       rw [← e]
       exact ⟨hGle.out, HG.out⟩
      obtain ⟨b3, l3, c3, z3, rfl, hl30, hl3L, -, o3, cc3, v3, -, -, -⟩ := hn1'.open hn10
      go_wp2_with fail
      go_loopw [6, 9] (fun y i wi => ∃ j : Nat, j ≤ k ∧ i = .int .i64 j ∧ PnG w wi y (n1' * 2 ^ j) L ∧ Below w.heap.size w wi) (fun _ i _ => k - (intOf i).toNat)
      case atStart => exact ⟨0, Nat.zero_le _, rfl, by rw [Int.pow_zero, Int.mul_one]; exact hn1', kr1⟩
      case round =>
       obtain ⟨j, hj, rfl, ⟨ad, l, c, zs, rfl, hO, hC, hV, hLL⟩, ki⟩ := hrel
       by_cases hjk : j < k
       ·go_wp2_with fail
        refine (reftimes_any (n := 2) (m := 0) hO.rd (by omega) (by decide) (by decide) (by decide) (by decide)).mono ?_
        rintro e w5 ⟨a5, l5, c5, z5, rfl, ho5, hc5, hv5, hl5⟩
        have hv6 : val z5 = n1' * 2 ^ (j + 1) := by rw [hv5, hV, Int.pow_succ, Int.mul_assoc, Int.add_zero]
        have h56 : l5 ≤ L := by
         rw [← ho5.rd.1]
         refine canon_len hc5 ?_
         rw [hv6]
         have h8 := pow_le (n := n1') (j := j + 1) (k := k) (by omega) (by omega)
         have h9 := HGn.out.1
         have h10 := HA.out
         rw [Int.mul_comm] at h9
         omega
        have q5 : PnG w w5 (.slice a5 l5 c5) (n1' * 2 ^ (j + 1)) L := ⟨_, _, _, _, rfl, ho5.outer ki, hc5, hv6, h56⟩
        have k5 := grow_step ho5.1 ki
        clear hv5 hv6 hV
        go_wp2_with fail
        exact ⟨⟨j + 1, by omega, by go_num, q5, k5⟩, by simp [intOf] <;> omega⟩
       ·obtain rfl : j = k := by omega
        have HF : Hid (val zs = gcdI (val xs) (val ys)) := by
         show _ = _
         rw [hV, HGn.out.2, Int.mul_comm]
        go_wp2_with fail
        go_ret
        exact ⟨_, _, _, _, rfl, hO, hC, HF.out, hLL⟩
     ·obtain ⟨b3, l3, c3, z3, rfl, hl30, hl3L, -, -, -, -, -, -, -⟩ := hm1.open (by omega)
      obtain ⟨b4, l4, c4, z4, rfl, hl40, hl4L, -, -, -, -, -, -, -⟩ := hn1'.open hn10
      go_wp2_with fail
      go_loopg [5] m1.toNat (fun gk x wi => ∃ m2 : Int, PnG w wi x m2 L ∧ PnG w wi (.slice (some ⟨b4, 0, none⟩) l4 c4) n1' L ∧ 0 < m2 ∧ m2 ≤ m1 ∧ (m2 % 2 = 1 ∨ n1' % 2 = 1) ∧ Hid (gcdI m2 n1' = gcdI m n) ∧ Below w.heap.size w wi ∧ gk = m2.toNat)
      case atStart => exact ⟨m1, hm1, hn1', by omega, Int.le_refl _, hodd1, HG1, kr1, rfl⟩
      case round =>
       obtain ⟨m2, hm2, hn2', hm20, hm21, hodd2, HG2, kr2, rfl⟩ := hrel
       obtain ⟨b5, l5, c5, z5, rfl, hl50, hl5L, cell5, o5, cc5, v5, p5, q50, q51⟩ := hm2.open hm20
       generalize lz z5 0 = u5 at *
       have t5 := tm2 q50
       by_cases hu5 : u5 % 2 = 0
       ·rw [hu5] at t5
        have HG3 : Hid (gcdI (m2 / 2) n1' = gcdI m n) := by
         show _ = _
         rw [gcdI_half hm20 hn10 (by omega) (by omega)]
         exact HG2.out
        go_wp2_with fail
        refine (refquo_any o5.rd (by omega) (by decide) (by decide)).mono ?_
        rintro e w6 ⟨aq, lq, cq, zq, rfl, hoq, hcq, hvq, hlq⟩
        have q6 : PnG w w6 (.slice aq lq cq) (m2 / 2) L := ⟨_, _, _, _, rfl, hoq.outer kr2, hcq, by rw [hvq, v5], by omega⟩
        have k6 := grow_step hoq.1 kr2
        have n6 := hn2'.later hoq.1
        clear hvq
        go_wp2_with fail
        go_roundg (m2 / 2).toNat
        case measure => omega
        case rel => exact ⟨m2 / 2, q6, n6, by omega, by omega, by omega, HG3, k6, rfl⟩
       ·have hu51 : u5 % 2 = 1 := by omega
        rw [hu51] at t5
        go_wp2_with fail
        clear cell5
        go_loopg [6] n1'.toNat (fun gk y wi => ∃ n2 : Int, PnG w wi (.slice (some ⟨b5, 0, none⟩) l5 c5) m2 L ∧ PnG w wi y n2 L ∧ 0 < n2 ∧ n2 ≤ n1' ∧ Hid (gcdI m2 n2 = gcdI m n) ∧ Below w.heap.size w wi ∧ gk = n2.toNat)
        case atStart => exact ⟨n1', hm2, hn2', hn10, Int.le_refl _, HG2, kr2, rfl⟩
        case round =>
         obtain ⟨n2, hm3, hn3, hn20, hn21, HG4, kr3, rfl⟩ := hrel
         obtain ⟨b7, l7, c7, z7, rfl, hl70, hl7L, cell7, o7, cc7, v7, p7, q70, q71⟩ := hn3.open hn20
         generalize lz z7 0 = u7 at *
         have t7 := tm2 q70
         by_cases hu7 : u7 % 2 = 0
         ·rw [hu7] at t7
          have HG5 : Hid (gcdI m2 (n2 / 2) = gcdI m n) := by
           show _ = _
           rw [gcdI_comm, gcdI_half hn20 hm20 (by omega) (by omega), gcdI_comm]
           exact HG4.out
          go_wp2_with fail
          refine (refquo_any o7.rd (by omega) (by decide) (by decide)).mono ?_
          rintro e w8 ⟨aq, lq, cq, zq, rfl, hoq, hcq, hvq, hlq⟩
          have q8 : PnG w w8 (.slice aq lq cq) (n2 / 2) L := ⟨_, _, _, _, rfl, hoq.outer kr3, hcq, by rw [hvq, v7], by omega⟩
          have k8 := grow_step hoq.1 kr3
          have m8 := hm3.later hoq.1
          clear hvq
          go_wp2_with fail
          go_roundg (n2 / 2).toNat
          case measure => omega
          case rel => exact ⟨n2 / 2, m8, q8, by omega, by omega, HG5, k8, rfl⟩
         ·have hu71 : u7 % 2 = 1 := by omega
          rw [hu71] at t7
          obtain ⟨ad9, l9, c9, z9, e9, o9, cc9, v9, hl9⟩ := id hm3
          obtain ⟨e91, e92, e93⟩ := Value.slice.inj e9
          subst e91 e92 e93
          clear e9
          go_wp2_with fail
          refine (refcmp_any o9.rd o7.rd).mono ?_
          rintro e w10 ⟨rfl, rfl⟩
          rw [v9, v7]
          by_cases hlt : m2 < n2
          ·rw [cmpI_lt hlt]
           have HG6 : Hid (gcdI (n2 - m2) m2 = gcdI m n) := by
            show _ = _
            rw [gcdI_less hm20 (by omega), gcdI_comm]
            exact HG4.out
           go_wp2_with fail
           refine (refsub_any o7.rd o9.rd (by omega) (by omega)).mono ?_
           rintro e w11 ⟨aq, lq, cq, zq, rfl, hoq, hcq, hvq, hlq⟩
           have q8 : PnG w w11 (.slice aq lq cq) (n2 - m2) L := ⟨_, _, _, _, rfl, hoq.outer kr3, hcq, by rw [hvq, v7, v9], by omega⟩
           have k8 := grow_step hoq.1 kr3
           have m8 := hm3.later hoq.1
           clear hvq
           go_wp2_with fail
           go_roundg (n2 - m2 + m2).toNat
           case measure => omega
           case rel => exact ⟨n2 - m2, m2, q8, m8, by omega, hm20, by omega, HG6, k8, rfl⟩
          ·have hcc : ¬ cmpI m2 n2 < 0 := by unfold cmpI; omega
           generalize cmpI m2 n2 = cc at *
           have HG6 : Hid (gcdI (m2 - n2) n2 = gcdI m n) := by
            show _ = _
            rw [gcdI_less hn20 (by omega)]
            exact HG4.out
           go_wp2_with fail
           refine (refsub_any o9.rd o7.rd (by omega) (by omega)).mono ?_
           rintro e w11 ⟨aq, lq, cq, zq, rfl, hoq, hcq, hvq, hlq⟩
           have q8 : PnG w w11 (.slice aq lq cq) (m2 - n2) L := ⟨_, _, _, _, rfl, hoq.outer kr3, hcq, by rw [hvq, v7, v9], by omega⟩
           have k8 := grow_step hoq.1 kr3
           have m8 := hn3.later hoq.1
           clear hvq
           go_wp2_with fail
           go_roundg (m2 - n2 + n2).toNat
           case measure => omega
           case rel => exact ⟨m2 - n2, n2, q8, m8, by omega, hn20, by omega, HG6, k8, rfl⟩)

theorem refgcd_any {a1 a2 : Option Addr} {l1 c1 l2 c2 : Nat} {xs ys : List Int} {w : World} (h1 : Rd w a1 l1 c1 xs) (h2 : Rd w a2 l2 c2 ys) (hl1 : l1 ≤ 8589934592) (hl2 : l2 ≤ 8589934592) :
  Calls Tryz.prog 101 #[.slice a1 l1 c1, .slice a2 l2 c2] w fun e w' => ∃ ad len cap zs, e = .returned (.slice ad len cap) ∧ Out w w' ad len cap zs ∧ Canon zs ∧ val zs = gcdI (val xs) (val ys) ∧ len ≤ l1 + l2 := refgcd_L h1 h2 (by omega) (by omega) (by omega)

end Go.Proofs.YtjhhknfnaobmiaaGreatDoor

namespace Go.Proofs.YtjhhknfnaobmiaaGreatDoor
open Go.RowKit

theorem rg6_n {a1 a2 : Option Addr} {l1 c1 l2 c2 : Nat} {m n : Int} {w : World} (h1 : Nm w a1 l1 c1 m) (h2 : Nm w a2 l2 c2 n) (hl1 : l1 ≤ 8589934592) (hl2 : l2 ≤ 8589934592) :
  Calls Tryz.prog 101 #[.slice a1 l1 c1, .slice a2 l2 c2] w fun e w' => ∃ ad len cap, e = .returned (.slice ad len cap) ∧ Cn w' ad len cap (gcdI m n) ∧ Below w.heap.size w w' ∧ len ≤ l1 + l2 := by
 obtain ⟨xs, h1, rfl⟩ := h1
 obtain ⟨ys, h2, rfl⟩ := h2
 refine (refgcd_any h1 h2 hl1 hl2).mono ?_
 rintro e w' ⟨ad, len, cap, zs, rfl, ho, hc, hv, hl⟩
 exact ⟨ad, len, cap, rfl, out_cn ho hc hv, ho.1, hl⟩
theorem cn_nilA (w : World) : Cn w none 0 0 0 := by
 obtain ⟨n, h1, h2, _⟩ := zn_zero w
 have e : n = 0 := by simpa [sg] using h2.symm
 rwa [e] at h1
theorem Cn.len_le {w w' : World} {a : Option Addr} {l c : Nat} {m : Int} {a' : Option Addr} {l' c' : Nat} {n : Int} (h : Cn w a l c m) (h' : Nm w' a' l' c' n) (hle : m ≤ n) : l ≤ l' := by
 obtain ⟨zs, h1, h2, h3⟩ := h
 obtain ⟨xs, g1, g2⟩ := h'
 rcases Nat.lt_or_ge l' l with hlt | hge
 ·have := val_lt_of_length g1.2.2.2.1 h2 (by rw [g1.1, h1.1]; exact hlt)
  omega
 ·exact hge
theorem gcdI_le {m n : Int} (h : 0 < n) : gcdI m n ≤ n := by
 unfold gcdI
 have := Nat.gcd_le_right m.toNat (show 0 < n.toNat by omega)
 omega
theorem gcdI_nil {m : Int} (h : 0 ≤ m) : gcdI m 0 = m := by
 unfold gcdI
 simp
 omega

set_option maxRecDepth 100000 in
set_option maxHeartbeats 1600000 in
theorem rgcd6_list {w : World} {b off n cap : Nat} {S : Nat → Bool} {A : Nat → Option Addr} {L C : Nat → Nat} {M : Nat → Int} (hl : ZL w b off n S A L C M) {Lm : Nat} (hL : ∀ i, i < n → L i ≤ Lm) (hb : Lm ≤ 4294967296) (hn : n ≤ 1099511627776) :
  Calls Tryz.prog 53 #[.slice (some ⟨b, off, none⟩) n cap] w fun e w' => ∃ s' ad len cap, e = .returned (.agg #[.bool s', .slice ad len cap]) ∧ Zn w' s' ad len cap (fold gcdI 0 M n) ∧ Below w.heap.size w w' ∧ len ≤ Lm := by
 go_enter Tryz.func53, Tryz.ntmps53
 go_wp2_with fail
 have y := zb_new w false none 0 0
 have b0 := below_alloc w (.cells #[.bool false, .slice none 0 0] 24)
 replace hl := hl.below b0
 generalize w.alloc (.cells #[.bool false, .slice none 0 0] 24) = wb at *
 generalize hp : w.heap.size = r at *
 replace hp := hide hp
 go_loopw [3, 4] (fun t i wr => ∃ (k : Nat) (at' : Option Addr) (lt ct : Nat), k ≤ n ∧ i = .int .i64 k ∧ t = .slice at' lt ct ∧ Cn wr at' lt ct (fold gcdI 0 M k) ∧ lt ≤ Lm ∧ Below wb.heap.size wb wr) (fun _ i _ => n - (intOf i).toNat)
 case atStart => exact ⟨0, none, 0, 0, Nat.zero_le _, rfl, rfl, cn_nilA _, Nat.zero_le _, Below.refl _ _⟩
 case round =>
  obtain ⟨k, at', lt, ct, hk, rfl, rfl, hct, hlt, kr⟩ := hrel
  by_cases hkN : k < n
  ·have q := hl.below kr
   have e1 := q.c1 k hkN
   have hnm := q.nm k hkN
   have hle := hl.le k hkN
   have hmk := hL k hkN
   have hlb := q.lt
   go_wp2_with fail
   refine (rg6_n hct.nm hnm (by omega) (by omega)).mono ?_
   rintro e w2 ⟨ad, len, cap', rfl, hc2, k2, -⟩
   have hl2 : len ≤ Lm := by
    have h0 := hnm.nonneg
    by_cases hz : M k = 0
    ·rw [hz, gcdI_nil hct.nm.nonneg] at hc2
     exact Nat.le_trans (hc2.len_le hct.nm (Int.le_refl _)) hlt
    ·exact Nat.le_trans (hc2.len_le hnm (gcdI_le (by omega))) hmk
   go_wp2_with fail
   exact ⟨⟨k + 1, ad, len, cap', by omega, by go_num, rfl, hc2, hl2, grow_step k2 kr⟩, by simp [intOf]; omega⟩
  ·obtain rfl : k = n := by omega
   go_wp2_with fail
   refine (rnorm_n ⟨_, hct.nm, rfl⟩ (by omega)).mono ?_
   rintro e w' ⟨s', ad, len, cap', rfl, hz, hg, hl'⟩
   have y' : ZB w' r false none 0 0 := ZB.below y (grow_step hg kr)
   have y0 := y'.c0
   have y1 := y'.c1
   have y2 := y'.f 0
   have y3 := y'.f 1
   have hB : Below r w w' := b0.trans ((grow_step hg kr).mono (Nat.le_of_lt y.lt))
   go_wp2
   refine bodyPost_ret (results_cell_row rfl _ _ r 24 _ (0, 0) _ rfl (zb_fin y' s' ad len cap') Tryz.underlying24 rfl (by kernel_rfl)) rfl ?_
   exact ⟨s', ad, len, cap', by simp, zb_zn y' hz _ _ _ _, hp.out.symm ▸ (hB.setCell (Nat.le_refl _) _).setCell (Nat.le_refl _) _, by omega⟩

end Go.Proofs.YtjhhknfnaobmiaaGreatDoor
