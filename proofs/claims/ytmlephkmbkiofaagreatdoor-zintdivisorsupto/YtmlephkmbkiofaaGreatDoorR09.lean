/-
 Walks of the reference package: Quo.
-/
import Derived.Test.YtmlephkmbkiofaaGreatDoorR07
namespace Go.Proofs.YtmlephkmbkiofaaGreatDoor
open Go.RowKit

theorem quo_bd {rv x n : Int} (h0 : 0 ≤ rv) (h1 : rv < n) (hx0 : 0 ≤ x) (hx1 : x < 4294967296) : 0 ≤ (rv * 4294967296 + x) / n ∧ (rv * 4294967296 + x) / n < 4294967296 ∧ 0 ≤ (rv * 4294967296 + x) % n ∧ (rv * 4294967296 + x) % n < n ∧ rv * 4294967296 + x = n * ((rv * 4294967296 + x) / n) + (rv * 4294967296 + x) % n := by
 have hn : 0 < n := by omega
 refine ⟨Int.ediv_nonneg (by omega) (by omega), ?_, Int.emod_nonneg _ (by omega), Int.emod_lt_of_pos _ hn, (Int.mul_ediv_add_emod _ _).symm⟩
 refine Int.ediv_lt_of_lt_mul hn ?_
 have : (rv + 1) * 4294967296 ≤ n * 4294967296 := Int.mul_le_mul_of_nonneg_right (by omega) (by decide)
 rw [Int.mul_comm 4294967296 n]
 omega

set_option maxRecDepth 100000 in
set_option maxHeartbeats 3200000 in
theorem refquo_any {a1 : Option Addr} {l1 c1 : Nat} {xs : List Int} {n : Int} {w : World} (h1 : Rd w a1 l1 c1 xs) (hl1 : l1 ≤ 17179869184) (hn0 : 0 < n) (hn1 : n < 4294967296) :
  Calls Tryz.prog 55 #[.slice a1 l1 c1, .int .u32 n] w fun e w' => ∃ aq lq cq zq, e = .returned (.tuple #[.slice aq lq cq, .int .u32 (val xs % n)]) ∧ Out w w' aq lq cq zq ∧ Canon zq ∧ val zq = val xs / n ∧ lq ≤ l1 := by
 have hXL := h1.2.2.2.1
 have HXl := hide h1.1
 have hmk := run_mk l1 (by omega)
 have k2 := below_alloc w (.cells (U (List.replicate l1 0)) 42)
 have rq := row_alloc w (List.replicate l1 0)
 go_enter Tryz.func55, Tryz.ntmps55
 go_wp2_with fail
 go_loopw [7, 8] (fun lf i wr => ∃ (j : Nat) (H qv rv : Int) (Q : List Int), j ≤ l1 ∧ i = .int .i64 ((j : Int) - 1) ∧ lf = .int .u64 rv ∧ 0 ≤ rv ∧ rv < n ∧ Q.length = l1 ∧ Limbs Q ∧ Row wr w.heap.size Q ∧ Below w.heap.size w wr ∧ Hid (∀ i, i < j → lz Q i = 0) ∧ Hid (val Q = pw j * qv) ∧ Hid (val xs = vl xs j + pw j * H) ∧ Hid (H = n * qv + rv)) (fun _ i _ => (intOf i + 1).toNat)
 case atStart =>
  refine ⟨l1, 0, 0, 0, List.replicate l1 0, Nat.le_refl _, rfl, rfl, Int.le_refl _, hn0, List.length_replicate, Limbs.replicate _, rq, k2, ?_, ?_, ?_, ?_⟩
  ·show ∀ _, _; intro i _; exact lz_replicate _ _
  ·show _ = _; unfold val; rw [vl_replicate, Int.mul_zero]
  ·show _ = _; rw [Int.mul_zero, Int.add_zero]; unfold val; rw [unhide HXl]
  ·show _ = _; simp
 case round =>
  obtain ⟨j, H, qv, rv, Q, hj, rfl, rfl, hr0, hr1, hQl, hQL, hQ, kr, HZ, HQ, HX, HH⟩ := hrel
  clear hmk rq k2
  by_cases hj0 : 0 < j
  ·obtain ⟨j, rfl⟩ : ∃ i, j = i + 1 := ⟨j - 1, by omega⟩
   have Bx := lz_bd hXL j
   have q1 := h1.below kr
   have hcell := hQ.cell (i := j) (by omega)
   have hfr := hQ.frozen j
   have hz := (unhide HZ) j (by omega)
   obtain ⟨_, _, _, _, h5⟩ := q1
   rcases h5 with ⟨_, h6, _⟩ | ⟨a', rfl, h6 | ⟨b, off, rfl, _, hc⟩⟩
   ·omega
   ·omega
   ·have hcx := hc j (by omega)
    clear hc
    have hxj : vl xs (j + 1) = vl xs j + lz xs j * pw j := vl_succ _ _
    generalize lz xs j = x at *
    have qb := quo_bd hr0 hr1 Bx.1 Bx.2
    have HX2 : Hid (val xs = vl xs j + pw j * (H * 4294967296 + x)) := by
     show _ = _
     rw [HX.out, hxj, pw_succ, Int.mul_add, Int.mul_comm x (pw j), Int.mul_comm 4294967296 (pw j), Int.mul_assoc, Int.mul_comm 4294967296 H]
     omega
    have HH2 : Hid (H * 4294967296 + x = n * (qv * 4294967296 + (rv * 4294967296 + x) / n) + (rv * 4294967296 + x) % n) := by
     show _ = _
     have h9 := qb.2.2.2.2
     rw [HH.out, Int.add_mul, Int.mul_add, Int.mul_assoc]
     omega
    have HZ2 : Hid (∀ i, i < j → lz (Q.set j ((rv * 4294967296 + x) / n)) i = 0) := by
     show ∀ _, _
     intro i hi
     rw [lz_set _ _ _ _ (by omega), if_neg (by omega)]
     exact (unhide HZ) i (by omega)
    have HQ2 : Hid (val (Q.set j ((rv * 4294967296 + x) / n)) = pw j * (qv * 4294967296 + (rv * 4294967296 + x) / n)) := by
     show _ = _
     have := vl_set (zs := Q) (m := j) (n := Q.length) ((rv * 4294967296 + x) / n) (by omega) (by omega)
     unfold val
     rw [List.length_set, this, hz, Int.sub_zero]
     have h9 : vl Q Q.length = pw (j + 1) * qv := HQ.out
     rw [h9, pw_succ, Int.mul_add, Int.mul_comm ((rv * 4294967296 + x) / n) (pw j), Int.mul_comm 4294967296 (pw j), Int.mul_assoc, Int.mul_comm 4294967296 qv]
    have qb0 := qb.1
    have qb1 := qb.2.1
    have qb2 := qb.2.2.1
    have qb3 := qb.2.2.2.1
    have r7 := hQ.set j ((rv * 4294967296 + x) / n)
    clear qb hxj
    go_wp2_with fail
    exact ⟨⟨j, _, _, _, _, by omega, rfl, rfl, qb2, qb3, by rw [List.length_set]; exact hQl, hQL.set j qb0 qb1, r7, kr.setCell (Nat.le_refl _) _, HZ2, HQ2, HX2, HH2⟩, by simp [intOf] <;> omega⟩
  ·obtain rfl : j = 0 := by omega
   have hH : val xs = H := by rw [HX.out]; simp [vl, pw]
   have hq0 : val Q = qv := by rw [HQ.out]; simp [pw]
   have hdm := Int.ediv_emod_unique (a := val xs) (b := n) (r := rv) (q := qv) hn0
   have hqr := hdm.2 ⟨by rw [hH, HH.out]; omega, hr0, hr1⟩
   have HD := hide hqr
   clear hdm hqr
   have rQ := hQ.rd hQL (off := 0) (len := l1) (cap := l1) (by omega) (Nat.le_refl _) (by omega)
   rw [List.drop_zero, List.take_of_length_le (by omega)] at rQ
   go_wp2_with fail
   refine (trim_any rQ (by omega)).mono ?_
   rintro e w4 ⟨rfl, ho4, -⟩
   have t1 := tl_le Q l1
   go_wp2_with fail
   refine bodyPost_ret (results_tmp2 rfl _ _ _) rfl ?_
   refine ⟨_, _, _, _, ?_, ho4.outer kr, canon_trim hQL, ?_, by omega⟩
   ·rw [(unhide HD).2]; rfl
   ·rw [val_trim, hq0]; exact (unhide HD).1.symm

end Go.Proofs.YtmlephkmbkiofaaGreatDoor
