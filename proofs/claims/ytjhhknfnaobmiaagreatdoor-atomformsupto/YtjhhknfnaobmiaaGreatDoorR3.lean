/-
 Walks of the reference package: Cmp, Add, Sub.
-/
import Derived.Test.YtjhhknfnaobmiaaGreatDoorR1
namespace Go.Proofs.YtjhhknfnaobmiaaGreatDoor
open Go.RowKit

theorem cmpI_add (a b c : Int) : cmpI (a + c) (b + c) = cmpI a b := by
 unfold cmpI
 by_cases h1 : a < b
 ·rw [if_pos h1, if_pos (by omega)]
 ·rw [if_neg h1, if_neg (by omega)]
  by_cases h2 : b < a
  ·rw [if_pos h2, if_pos (by omega)]
  ·rw [if_neg h2, if_neg (by omega)]

theorem ret_val {a b : Int} (h : a = b) : Value.int .i64 a = .int .i64 b := by rw [h]

theorem cmp_up {xs ys : List Int} (hx : Limbs xs) (hy : Limbs ys) (k : Nat) : cmpI (vl xs (k + 1)) (vl ys (k + 1)) = if lz xs k < lz ys k then -1 else if lz ys k < lz xs k then 1 else cmpI (vl xs k) (vl ys k) := by
 split
 ·rename_i h; exact cmpI_lt (vl_lt_of_lz hx hy (i := k) (by omega) (fun j h1 h2 => by omega) h)
 ·split
  ·rename_i h; exact cmpI_gt (vl_lt_of_lz hy hx (i := k) (by omega) (fun j h1 h2 => by omega) h)
  ·have e : lz xs k = lz ys k := by omega
   rw [vl_succ, vl_succ, e, cmpI_add]

set_option maxRecDepth 100000 in
set_option maxHeartbeats 1600000 in
theorem refcmp_any {a1 a2 : Option Addr} {l1 c1 l2 c2 : Nat} {xs ys : List Int} {w : World} (h1 : Rd w a1 l1 c1 xs) (h2 : Rd w a2 l2 c2 ys) :
  Calls Tryz.prog 103 #[.slice a1 l1 c1, .slice a2 l2 c2] w fun e w' => e = .returned (.int .i64 (cmpI (val xs) (val ys))) ∧ w = w' := by
 have L1 : Hid (xs.length = l1) := h1.1
 have L2 : Hid (ys.length = l2) := h2.1
 have b1 : l1 ≤ 9223372036854775807 := by have := h1.2; omega
 have b2 : l2 ≤ 9223372036854775807 := by have := h2.2; omega
 go_enter Tryz.func103, Tryz.ntmps103
 go_wp2_with fail
 go_loop [5, 6] (fun o i => ∃ (k : Nat), k ≤ max l1 l2 ∧ i = .int .i64 k ∧ o = .int .i64 (cmpI (vl xs k) (vl ys k))) (fun _ i => max l1 l2 - (intOf i).toNat)
 case atStart => exact ⟨0, Nat.zero_le _, rfl, rfl⟩
 case round =>
  obtain ⟨k, hk, rfl, rfl⟩ := hrel
  by_cases hkN : k < max l1 l2
  ·have hcu := hide (cmp_up h1.2.2.2.1 h2.2.2.2.1 k)
   by_cases hk1 : k < l1
   ·rcases Int.lt_trichotomy (lz xs k) (lz ys k) with hl | hl | hl
    ·have HV : Hid (cmpI (vl xs (k + 1)) (vl ys (k + 1)) = -1) := by show _ = _; rw [hcu.out, if_pos hl]
     have f2 : decide (lz ys k < lz xs k) = false := by simp; omega
     go_wp2_with fail
     refine (at_any h1 (k : Int) (by omega) (by omega)).mono ?_
     rintro e w' ⟨rfl, rfl⟩
     rw [Int.toNat_natCast]
     go_wp2_with fail
     refine (at_any h2 (k : Int) (by omega) (by omega)).mono ?_
     rintro e w' ⟨rfl, rfl⟩
     rw [Int.toNat_natCast]
     go_wp2_with fail
     refine (at_any h1 (k : Int) (by omega) (by omega)).mono ?_
     rintro e w' ⟨rfl, rfl⟩
     rw [Int.toNat_natCast]
     go_wp2_with fail
     refine (at_any h2 (k : Int) (by omega) (by omega)).mono ?_
     rintro e w' ⟨rfl, rfl⟩
     rw [Int.toNat_natCast]
     go_wp2_with fail
     go_round
     case rel => exact ⟨k + 1, by omega, by go_num, ret_val HV.out.symm⟩
     case measure => simp [intOf]; omega
    ·have HV : Hid (cmpI (vl xs (k + 1)) (vl ys (k + 1)) = cmpI (vl xs k) (vl ys k)) := by show _ = _; rw [hcu.out, if_neg (by omega), if_neg (by omega)]
     have f1 : decide (lz xs k < lz ys k) = false := by simp; omega
     have f2 : decide (lz ys k < lz xs k) = false := by simp; omega
     clear hl
     go_wp2_with fail
     refine (at_any h1 (k : Int) (by omega) (by omega)).mono ?_
     rintro e w' ⟨rfl, rfl⟩
     rw [Int.toNat_natCast]
     go_wp2_with fail
     refine (at_any h2 (k : Int) (by omega) (by omega)).mono ?_
     rintro e w' ⟨rfl, rfl⟩
     rw [Int.toNat_natCast]
     go_wp2_with fail
     refine (at_any h1 (k : Int) (by omega) (by omega)).mono ?_
     rintro e w' ⟨rfl, rfl⟩
     rw [Int.toNat_natCast]
     go_wp2_with fail
     refine (at_any h2 (k : Int) (by omega) (by omega)).mono ?_
     rintro e w' ⟨rfl, rfl⟩
     rw [Int.toNat_natCast]
     go_wp2_with fail
     go_round
     case rel => exact ⟨k + 1, by omega, by go_num, ret_val HV.out.symm⟩
     case measure => simp [intOf]; omega
    ·have HV : Hid (cmpI (vl xs (k + 1)) (vl ys (k + 1)) = 1) := by show _ = _; rw [hcu.out, if_neg (by omega), if_pos hl]
     have f1 : decide (lz xs k < lz ys k) = false := by simp; omega
     go_wp2_with fail
     refine (at_any h1 (k : Int) (by omega) (by omega)).mono ?_
     rintro e w' ⟨rfl, rfl⟩
     rw [Int.toNat_natCast]
     go_wp2_with fail
     refine (at_any h2 (k : Int) (by omega) (by omega)).mono ?_
     rintro e w' ⟨rfl, rfl⟩
     rw [Int.toNat_natCast]
     go_wp2_with fail
     refine (at_any h1 (k : Int) (by omega) (by omega)).mono ?_
     rintro e w' ⟨rfl, rfl⟩
     rw [Int.toNat_natCast]
     go_wp2_with fail
     refine (at_any h2 (k : Int) (by omega) (by omega)).mono ?_
     rintro e w' ⟨rfl, rfl⟩
     rw [Int.toNat_natCast]
     go_wp2_with fail
     go_round
     case rel => exact ⟨k + 1, by omega, by go_num, ret_val HV.out.symm⟩
     case measure => simp [intOf]; omega
   ·have hk2 : k < l2 := by omega
    rcases Int.lt_trichotomy (lz xs k) (lz ys k) with hl | hl | hl
    ·have HV : Hid (cmpI (vl xs (k + 1)) (vl ys (k + 1)) = -1) := by show _ = _; rw [hcu.out, if_pos hl]
     have f2 : decide (lz ys k < lz xs k) = false := by simp; omega
     go_wp2_with fail
     refine (at_any h1 (k : Int) (by omega) (by omega)).mono ?_
     rintro e w' ⟨rfl, rfl⟩
     rw [Int.toNat_natCast]
     go_wp2_with fail
     refine (at_any h2 (k : Int) (by omega) (by omega)).mono ?_
     rintro e w' ⟨rfl, rfl⟩
     rw [Int.toNat_natCast]
     go_wp2_with fail
     refine (at_any h1 (k : Int) (by omega) (by omega)).mono ?_
     rintro e w' ⟨rfl, rfl⟩
     rw [Int.toNat_natCast]
     go_wp2_with fail
     refine (at_any h2 (k : Int) (by omega) (by omega)).mono ?_
     rintro e w' ⟨rfl, rfl⟩
     rw [Int.toNat_natCast]
     go_wp2_with fail
     go_round
     case rel => exact ⟨k + 1, by omega, by go_num, ret_val HV.out.symm⟩
     case measure => simp [intOf]; omega
    ·have HV : Hid (cmpI (vl xs (k + 1)) (vl ys (k + 1)) = cmpI (vl xs k) (vl ys k)) := by show _ = _; rw [hcu.out, if_neg (by omega), if_neg (by omega)]
     have f1 : decide (lz xs k < lz ys k) = false := by simp; omega
     have f2 : decide (lz ys k < lz xs k) = false := by simp; omega
     clear hl
     go_wp2_with fail
     refine (at_any h1 (k : Int) (by omega) (by omega)).mono ?_
     rintro e w' ⟨rfl, rfl⟩
     rw [Int.toNat_natCast]
     go_wp2_with fail
     refine (at_any h2 (k : Int) (by omega) (by omega)).mono ?_
     rintro e w' ⟨rfl, rfl⟩
     rw [Int.toNat_natCast]
     go_wp2_with fail
     refine (at_any h1 (k : Int) (by omega) (by omega)).mono ?_
     rintro e w' ⟨rfl, rfl⟩
     rw [Int.toNat_natCast]
     go_wp2_with fail
     refine (at_any h2 (k : Int) (by omega) (by omega)).mono ?_
     rintro e w' ⟨rfl, rfl⟩
     rw [Int.toNat_natCast]
     go_wp2_with fail
     go_round
     case rel => exact ⟨k + 1, by omega, by go_num, ret_val HV.out.symm⟩
     case measure => simp [intOf]; omega
    ·have HV : Hid (cmpI (vl xs (k + 1)) (vl ys (k + 1)) = 1) := by show _ = _; rw [hcu.out, if_neg (by omega), if_pos hl]
     have f1 : decide (lz xs k < lz ys k) = false := by simp; omega
     go_wp2_with fail
     refine (at_any h1 (k : Int) (by omega) (by omega)).mono ?_
     rintro e w' ⟨rfl, rfl⟩
     rw [Int.toNat_natCast]
     go_wp2_with fail
     refine (at_any h2 (k : Int) (by omega) (by omega)).mono ?_
     rintro e w' ⟨rfl, rfl⟩
     rw [Int.toNat_natCast]
     go_wp2_with fail
     refine (at_any h1 (k : Int) (by omega) (by omega)).mono ?_
     rintro e w' ⟨rfl, rfl⟩
     rw [Int.toNat_natCast]
     go_wp2_with fail
     refine (at_any h2 (k : Int) (by omega) (by omega)).mono ?_
     rintro e w' ⟨rfl, rfl⟩
     rw [Int.toNat_natCast]
     go_wp2_with fail
     go_round
     case rel => exact ⟨k + 1, by omega, by go_num, ret_val HV.out.symm⟩
     case measure => simp [intOf]; omega
  ·have e1 : ¬ k < l1 := by omega
   have e2 : ¬ k < l2 := by omega
   have HE : Hid (cmpI (vl xs k) (vl ys k) = cmpI (val xs) (val ys)) := by
    show _ = _
    rw [vl_ge (by have := L1.out; omega), vl_ge (by have := L2.out; omega)]
   go_wp2_with fail
   go_ret
   exact ⟨ret_int HE.out, rfl⟩

theorem snoc_step {zs : List Int} {k : Nat} {cr s T : Int} (hk : zs.length = k) (h : val zs + cr * pw k = T) :
  val (zs ++ [(s + cr) % 4294967296]) + ((s + cr) / 4294967296) * pw (k + 1) = T + s * pw k := by
 rw [val_snoc, hk, pw_succ]
 have e : (s + cr) % 4294967296 + 4294967296 * ((s + cr) / 4294967296) = s + cr := Int.emod_add_mul_ediv _ _
 have e2 : (s + cr) / 4294967296 * (4294967296 * pw k) = (4294967296 * ((s + cr) / 4294967296)) * pw k := by
  rw [← Int.mul_assoc, Int.mul_comm ((s + cr) / 4294967296)]
 rw [e2, Int.add_assoc, ← Int.add_mul, e, Int.add_mul]
 omega

theorem out_nil (w : World) : Out w w none 0 0 [] := ⟨Below.refl _ _, .inl ⟨rfl, rfl, rfl, rfl⟩⟩

set_option maxRecDepth 100000 in
set_option maxHeartbeats 1600000 in
theorem refadd_any {a1 a2 : Option Addr} {l1 c1 l2 c2 : Nat} {xs ys : List Int} {w : World} (h1 : Rd w a1 l1 c1 xs) (h2 : Rd w a2 l2 c2 ys) (hl1 : l1 ≤ 1099511627776) (hl2 : l2 ≤ 1099511627776) :
  Calls Tryz.prog 102 #[.slice a1 l1 c1, .slice a2 l2 c2] w fun e w' => ∃ ad len cap zs, e = .returned (.slice ad len cap) ∧ Out w w' ad len cap zs ∧ Canon zs ∧ val zs = val xs + val ys ∧ len ≤ max l1 l2 + 1 := by
 have L1 : Hid (xs.length = l1) := h1.1
 have L2 : Hid (ys.length = l2) := h2.1
 go_enter Tryz.func102, Tryz.ntmps102
 go_wp2_with fail
 go_loopw [5, 6, 7] (fun o c i wr => ∃ (k : Nat) (cr : Int) (ad : Option Addr) (cap : Nat) (zs : List Int), k ≤ max l1 l2 ∧ i = .int .i64 k ∧ c = .int .u64 cr ∧ o = .slice ad k cap ∧ 0 ≤ cr ∧ cr ≤ 1 ∧ Out w wr ad k cap zs ∧ Hid (val zs + cr * pw k = vl xs k + vl ys k)) (fun _ _ i _ => max l1 l2 - (intOf i).toNat)
 case atStart => exact ⟨0, 0, none, 0, [], Nat.zero_le _, rfl, rfl, rfl, by decide, by decide, out_nil w, by show _ = _; simp [val, vl]⟩
 case round =>
  obtain ⟨k, cr, ad, cap, zs, hk, rfl, rfl, rfl, hc0, hc1, hO, HV⟩ := hrel
  by_cases hkN : k < max l1 l2
  ·have q1 := h1.below hO.1
   have q2 := h2.below hO.1
   have B1 := lz_bd h1.2.2.2.1 k
   have B2 := lz_bd h2.2.2.2.1 k
   have HS : Hid (val (zs ++ [(lz xs k + lz ys k + cr) % 4294967296]) + ((lz xs k + lz ys k + cr) / 4294967296) * pw (k + 1) = vl xs (k + 1) + vl ys (k + 1)) := by
    have := snoc_step (s := lz xs k + lz ys k) hO.rd.1 HV.out
    show _ = _
    rw [this, vl_succ, vl_succ, Int.add_mul]
    omega
   have hcase : k < l1 ∨ (¬ k < l1 ∧ k < l2) := by omega
   rcases hcase with hk1 | ⟨hk1, hk2⟩
   ·go_wp2_with fail
    refine (at_any q1 (k : Int) (by omega) (by omega)).mono ?_
    rintro e w' ⟨rfl, rfl⟩
    rw [Int.toNat_natCast]
    go_wp2_with fail
    refine (at_any q2 (k : Int) (by omega) (by omega)).mono ?_
    rintro e w' ⟨rfl, rfl⟩
    rw [Int.toNat_natCast]
    generalize lz xs k = x at *
    generalize lz ys k = y at *
    go_wp2_with (at_builtin; refine wpList_append_run rfl _ _ 22 rfl _ _ rfl rfl _ (run_append_one hO _ ((x + y + cr) % 4294967296) (by omega) (by omega) (by omega)) ?_; rintro v' w3 ⟨ad', cap', rfl, ho3, -, -, -⟩)
    exact ⟨⟨k + 1, _, ad', cap', _, by omega, by go_num, rfl, rfl, by omega, by omega, ho3, HS⟩, by simp [intOf]; omega⟩
   ·go_wp2_with fail
    refine (at_any q1 (k : Int) (by omega) (by omega)).mono ?_
    rintro e w' ⟨rfl, rfl⟩
    rw [Int.toNat_natCast]
    go_wp2_with fail
    refine (at_any q2 (k : Int) (by omega) (by omega)).mono ?_
    rintro e w' ⟨rfl, rfl⟩
    rw [Int.toNat_natCast]
    generalize lz xs k = x at *
    generalize lz ys k = y at *
    go_wp2_with (at_builtin; refine wpList_append_run rfl _ _ 22 rfl _ _ rfl rfl _ (run_append_one hO _ ((x + y + cr) % 4294967296) (by omega) (by omega) (by omega)) ?_; rintro v' w3 ⟨ad', cap', rfl, ho3, -, -, -⟩)
    exact ⟨⟨k + 1, _, ad', cap', _, by omega, by go_num, rfl, rfl, by omega, by omega, ho3, HS⟩, by simp [intOf]; omega⟩
  ·have e1 : ¬ k < l1 := by omega
   have e2 : ¬ k < l2 := by omega
   have HE : Hid (val (zs ++ [cr]) = val xs + val ys) := by
    show _ = _
    rw [val_snoc, hO.rd.1, HV.out, vl_ge (by have := L1.out; omega), vl_ge (by have := L2.out; omega)]
   go_wp2_with (at_builtin; refine wpList_append_run rfl _ _ 22 rfl _ _ rfl rfl _ (run_append_one hO _ cr (by omega) (by omega) (by omega)) ?_; rintro v' w3 ⟨ad', cap', rfl, ho3, -, -, -⟩)
   refine (trim_any ho3.rd (by omega)).mono ?_
   rintro e w4 ⟨rfl, ho4, -⟩
   have hlen := tl_le (zs ++ [cr]) (k + 1)
   go_wp2_with fail
   go_ret
   exact ⟨_, _, _, _, rfl, ho4.outer ho3.1, canon_trim ho3.rd.2.2.2.1, (val_trim _).trans HE.out, by omega⟩

theorem vl_small {ys : List Int} (h : Limbs ys) {k : Nat} (hv : val ys < pw k) : vl ys k = val ys := by
 have key : ∀ m, vl ys (k + m) < pw k → vl ys (k + m) = vl ys k := by
  intro m
  induction m with
  | zero => intro _; rfl
  | succ m ih =>
   intro hm
   rw [← Nat.add_assoc, vl_succ] at hm ⊢
   have hb := lz_bd h (k + m)
   have h0 := (vl_bd h (k + m)).1
   have hp := pw_pos (k + m)
   have hmm : pw k ≤ pw (k + m) := pw_mono (by omega)
   have hz : lz ys (k + m) = 0 := by
    rcases Int.lt_or_le 0 (lz ys (k + m)) with h1 | h1
    ·have : 1 * pw (k + m) ≤ lz ys (k + m) * pw (k + m) := Int.mul_le_mul_of_nonneg_right (by omega) (by omega)
     omega
    ·omega
   rw [hz] at hm ⊢
   rw [Int.zero_mul, Int.add_zero] at hm ⊢
   exact ih hm
 have e : vl ys (k + ys.length) = val ys := vl_ge (by omega)
 rw [← e]
 exact (key _ (by rw [e]; exact hv)).symm

theorem snoc_sub {zs : List Int} {k : Nat} {bw d T : Int} (hk : zs.length = k) (h : val zs - bw * pw k = T) :
  val (zs ++ [(4294967296 + d - bw) % 4294967296]) - (1 - (4294967296 + d - bw) / 4294967296) * pw (k + 1) = T + d * pw k := by
 rw [val_snoc, hk, pw_succ]
 have e : (4294967296 + d - bw) % 4294967296 + 4294967296 * ((4294967296 + d - bw) / 4294967296) = 4294967296 + d - bw := Int.emod_add_mul_ediv _ _
 generalize (4294967296 + d - bw) % 4294967296 = z at *
 generalize (4294967296 + d - bw) / 4294967296 = q at *
 have e3 : z = 4294967296 + d - bw - 4294967296 * q := by omega
 subst e3
 have e4 : (1 - q) * (4294967296 * pw k) = (4294967296 - 4294967296 * q) * pw k := by
  rw [← Int.mul_assoc, Int.sub_mul, Int.one_mul, Int.mul_comm q]
 rw [e4, ← h]
 simp only [Int.sub_mul, Int.add_mul]
 omega

set_option maxRecDepth 100000 in
set_option maxHeartbeats 1600000 in
theorem refsub_any {a1 a2 : Option Addr} {l1 c1 l2 c2 : Nat} {xs ys : List Int} {w : World} (h1 : Rd w a1 l1 c1 xs) (h2 : Rd w a2 l2 c2 ys) (hl1 : l1 ≤ 1099511627776) (hle : val ys ≤ val xs) :
  Calls Tryz.prog 104 #[.slice a1 l1 c1, .slice a2 l2 c2] w fun e w' => ∃ ad len cap zs, e = .returned (.slice ad len cap) ∧ Out w w' ad len cap zs ∧ Canon zs ∧ val zs = val xs - val ys ∧ len ≤ l1 := by
 have L1 : Hid (xs.length = l1) := h1.1
 have HLE := hide hle
 clear hle
 go_enter Tryz.func104, Tryz.ntmps104
 go_wp2_with fail
 go_loopw [5, 6, 7] (fun o c i wr => ∃ (k : Nat) (cr : Int) (ad : Option Addr) (cap : Nat) (zs : List Int), k ≤ l1 ∧ i = .int .i64 k ∧ c = .int .u64 cr ∧ o = .slice ad k cap ∧ 0 ≤ cr ∧ cr ≤ 1 ∧ Out w wr ad k cap zs ∧ Hid (val zs - cr * pw k = vl xs k - vl ys k)) (fun _ _ i _ => l1 - (intOf i).toNat)
 case atStart => exact ⟨0, 0, none, 0, [], Nat.zero_le _, rfl, rfl, rfl, by decide, by decide, out_nil w, by show _ = _; simp [val, vl]⟩
 case round =>
  obtain ⟨k, cr, ad, cap, zs, hk, rfl, rfl, rfl, hc0, hc1, hO, HV⟩ := hrel
  by_cases hkN : k < l1
  ·have q1 := h1.below hO.1
   have q2 := h2.below hO.1
   have B1 := lz_bd h1.2.2.2.1 k
   have B2 := lz_bd h2.2.2.2.1 k
   have HS : Hid (val (zs ++ [(lz xs k + 4294967296 - lz ys k - cr) % 4294967296]) - (1 - (lz xs k + 4294967296 - lz ys k - cr) / 4294967296) * pw (k + 1) = vl xs (k + 1) - vl ys (k + 1)) := by
    have := snoc_sub (d := lz xs k - lz ys k) hO.rd.1 HV.out
    show _ = _
    rw [show lz xs k + 4294967296 - lz ys k - cr = 4294967296 + (lz xs k - lz ys k) - cr from by omega, this, vl_succ, vl_succ, Int.sub_mul]
    omega
   go_wp2_with fail
   refine (at_any q1 (k : Int) (by omega) (by omega)).mono ?_
   rintro e w' ⟨rfl, rfl⟩
   rw [Int.toNat_natCast]
   go_wp2_with fail
   refine (at_any q2 (k : Int) (by omega) (by omega)).mono ?_
   rintro e w' ⟨rfl, rfl⟩
   rw [Int.toNat_natCast]
   generalize lz xs k = x at *
   generalize lz ys k = y at *
   go_wp2_with (at_builtin; refine wpList_append_run rfl _ _ 22 rfl _ _ rfl rfl _ (run_append_one hO _ ((x + 4294967296 - y - cr) % 4294967296) (by omega) (by omega) (by omega)) ?_; rintro v' w3 ⟨ad', cap', rfl, ho3, -, -, -⟩)
   exact ⟨⟨k + 1, _, ad', cap', _, by omega, by go_num, rfl, rfl, by omega, by omega, ho3, HS⟩, by simp [intOf]; omega⟩
  ·obtain rfl : k = l1 := by omega
   go_wp2_with fail
   refine (trim_any hO.rd (by omega)).mono ?_
   rintro e w4 ⟨rfl, ho4, -⟩
   have hlen := tl_le zs k
   go_wp2_with fail
   go_ret
   refine ⟨_, _, _, _, rfl, ho4.outer hO.1, canon_trim hO.rd.2.2.2.1, (val_trim _).trans ?_, by omega⟩
   have hv := HV.out
   rw [vl_ge (Nat.le_of_eq L1.out)] at hv
   have hz := (vl_bd hO.rd.2.2.2.1 k).2
   have hzv : vl zs k = val zs := vl_ge (Nat.le_of_eq hO.rd.1)
   have hx := (vl_bd h1.2.2.2.1 k).2
   rw [vl_ge (Nat.le_of_eq L1.out)] at hx
   have hle := unhide HLE
   have hy := vl_small h2.2.2.2.1 (k := k) (by omega)
   rw [hy] at hv
   have hcc : cr = 0 ∨ cr = 1 := by omega
   rcases hcc with rfl | rfl
   ·omega
   ·rw [Int.one_mul] at hv; omega
end Go.Proofs.YtjhhknfnaobmiaaGreatDoor
