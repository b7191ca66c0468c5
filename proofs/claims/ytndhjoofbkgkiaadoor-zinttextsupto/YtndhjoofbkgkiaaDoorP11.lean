/-
 Several texts in one: R5, R6.
-/
import Derived.Test.YtndhjoofbkgkiaaDoorP09
namespace Go.Proofs.YtndhjoofbkgkiaaDoor
open Go.RowKit

set_option maxRecDepth 100000 in
set_option maxHeartbeats 1600000 in
theorem reftimes_any {a1 : Option Addr} {l1 c1 : Nat} {xs : List Int} {w : World} {n m : Int} (h1 : Rd w a1 l1 c1 xs) (hl1 : l1 ≤ 1099511627776) (hn0 : 0 ≤ n) (hn1 : n < 4294967296) (hm0 : 0 ≤ m) (hm1 : m < 4294967296) :
  Calls Tryd.prog 48 #[.slice a1 l1 c1, .int .u32 n, .int .u32 m] w fun e w' => ∃ ad len cap zs, e = .returned (.slice ad len cap) ∧ Out w w' ad len cap zs ∧ Canon zs ∧ val zs = val xs * n + m ∧ len ≤ l1 + 1 := by
 have L1 : Hid (xs.length = l1) := h1.1
 go_enter Tryd.func48, Tryd.ntmps48
 go_wp2_with fail
 go_loopw [7, 8, 9] (fun o c i wr => ∃ (k : Nat) (cr : Int) (ad : Option Addr) (cap : Nat) (zs : List Int), k ≤ l1 ∧ i = .int .i64 k ∧ c = .int .u64 cr ∧ o = .slice ad k cap ∧ 0 ≤ cr ∧ cr < 4294967296 ∧ Out w wr ad k cap zs ∧ Hid (val zs + cr * pw k = vl xs k * n + m)) (fun _ _ i _ => l1 - (intOf i).toNat)
 case atStart => exact ⟨0, m, none, 0, [], Nat.zero_le _, rfl, rfl, rfl, by omega, by omega, out_nil w, by show _ = _; simp [val, vl, pw]⟩
 case round =>
  obtain ⟨k, cr, ad, cap, zs, hk, rfl, rfl, rfl, hc0, hc1, hO, HV⟩ := hrel
  by_cases hkN : k < l1
  ·have q1 := h1.below hO.1
   have B1 := lz_bd h1.2.2.2.1 k
   have hmb := mul_bd B1.1 B1.2 hn0 hn1
   have HS : Hid (val (zs ++ [(lz xs k * n + cr) % 4294967296]) + ((lz xs k * n + cr) / 4294967296) * pw (k + 1) = vl xs (k + 1) * n + m) := by
    have := snoc_step (s := lz xs k * n) hO.rd.1 HV.out
    show _ = _
    rw [this, vl_succ, Int.add_mul, Int.mul_right_comm (lz xs k) (pw k) n]
    omega
   obtain ⟨_, _, _, _, h5⟩ := q1
   rcases h5 with ⟨_, h6, _⟩ | ⟨a, rfl, h6 | ⟨b, off, rfl, _, hc⟩⟩
   ·omega
   ·omega
   ·have hcn := hc k hkN
    clear hc
    generalize lz xs k = x at *
    go_wp2_with (at_builtin; refine wpList_append_run rfl _ _ 22 rfl _ _ rfl rfl _ (run_append_one hO _ ((x * n + cr) % 4294967296) (by omega) (by omega) (by omega)) ?_; rintro v' w3 ⟨ad', cap', rfl, ho3, -, -, -⟩)
    exact ⟨⟨k + 1, _, ad', cap', _, by omega, by go_num, rfl, rfl, by omega, by omega, ho3, HS⟩, by simp [intOf]; omega⟩
  ·have HE : Hid (val (zs ++ [cr]) = val xs * n + m) := by
    show _ = _
    rw [val_snoc, hO.rd.1, HV.out, vl_ge (by have := L1.out; omega)]
   go_wp2_with (at_builtin; refine wpList_append_run rfl _ _ 22 rfl _ _ rfl rfl _ (run_append_one hO _ cr (by omega) (by omega) (by omega)) ?_; rintro v' w3 ⟨ad', cap', rfl, ho3, -, -, -⟩)
   refine (trim_any ho3.rd (by omega)).mono ?_
   rintro e w4 ⟨rfl, ho4, -⟩
   have hlen := tl_le (zs ++ [cr]) (k + 1)
   go_wp2_with fail
   go_ret
   exact ⟨_, _, _, _, rfl, ho4.outer ho3.1, canon_trim ho3.rd.2.2.2.1, (val_trim _).trans HE.out, by omega⟩

end Go.Proofs.YtndhjoofbkgkiaaDoor

namespace Go.Proofs.YtndhjoofbkgkiaaDoor
open Go.RowKit

theorem run_copy_off {w : World} {g d dLen dCap n cap : Nat} {ad : Option Addr} {cur X : List Int} (hg : Row w g cur) (hX : Rd w ad n cap X) (hd : d + dLen ≤ cur.length) (ty : TypeId) :
  ∃ v' w', (Builtin.copy_ #[22, 22] ty #[.slice (some ⟨g, d, none⟩) dLen dCap, .slice ad n cap]).run Tryd.prog w = .ok v' w' ∧ (∃ k : Nat, v' = goInt k) ∧ Row w' g (cur.take d ++ X.take (min n dLen) ++ cur.drop (d + min n dLen)) ∧ Only g w w' := by
 obtain ⟨h1, h2, h3, h4, h5⟩ := hX
 have fin : ∀ a, ad = some a → (∀ j, j < n → w.cell? (a.add j) = some (.int .u32 (lz X j))) → ∃ v' w', (Builtin.copy_ #[22, 22] ty #[.slice (some ⟨g, d, none⟩) dLen dCap, .slice ad n cap]).run Tryd.prog w = .ok v' w' ∧ (∃ k : Nat, v' = goInt k) ∧ Row w' g (cur.take d ++ X.take (min n dLen) ++ cur.drop (d + min n dLen)) ∧ Only g w w' := by
  rintro a rfl hc
  have hlen : ((X.take (min n dLen)).map (Value.int .u32)).length = Nat.min n dLen := by
   rw [List.length_map, List.length_take]; show min (min n dLen) X.length = min n dLen; omega
  have hr := run_copy_row (P := Tryd.prog) w 22 22 ty 49 g d dLen dCap a n cap (U cur) 49 ((X.take (min n dLen)).map (Value.int .u32)) Tryd.underlying22 size49 hg hlen
   (fun j v hv => by
    obtain ⟨q1, rfl⟩ := lz_map hv
    rw [List.length_take] at q1
    rw [lz_take, if_pos (by omega)]
    exact hc j (by omega))
   (by rw [U_size, hlen]; show d + min n dLen ≤ _; omega)
   (fun u hu => by obtain ⟨z, _, rfl⟩ := List.mem_map.1 hu; rfl)
  refine ⟨_, _, hr, ⟨_, rfl⟩, ?_, ⟨rfl, rfl, rfl, by simp, fun k hk => setRow_other w g k _ hk⟩⟩
  have := setRow_heap w g (U cur) ((U cur).toList.take d ++ (X.take (min n dLen)).map (Value.int .u32) ++ (U cur).toList.drop (d + ((X.take (min n dLen)).map (Value.int .u32)).length)).toArray 49 (0, 0) hg
  rw [Row, this, hlen]
  have hmm : Nat.min n dLen = min n dLen := rfl
  simp [U, List.map_take, List.map_drop, hmm]
 rcases h5 with ⟨rfl, rfl, rfl⟩ | ⟨a, rfl, rfl | ⟨b, off, rfl, _, hc⟩⟩
 ·refine ⟨_, _, run_copy_nil (P := Tryd.prog) w 22 22 ty 49 ⟨g, d, none⟩ dLen dCap Tryd.underlying22 (by rw [size49]; rfl), ⟨0, rfl⟩, ?_, Only.refl _ _⟩
  simpa using hg
 ·exact fin a rfl (fun j hj => absurd hj (by omega))
 ·exact fin _ rfl (fun j hj => by rw [Addr.add_lit]; exact hc j hj)

theorem vl_cons (x : Int) (zs : List Int) (n : Nat) : vl (x :: zs) (n + 1) = x + 4294967296 * vl zs n := by
 induction n with
 | zero => simp [vl, lz, pw]
 | succ n ih =>
  rw [vl_succ (x :: zs) (n + 1), ih, vl_succ zs n, pw_succ]
  have e : lz (x :: zs) (n + 1) = lz zs n := by simp [lz]
  rw [e, Int.mul_add, ← Int.mul_assoc, ← Int.mul_assoc, Int.mul_comm (lz zs n) 4294967296]
  omega
theorem val_cons (x : Int) (zs : List Int) : val (x :: zs) = x + 4294967296 * val zs := by
 unfold val
 rw [List.length_cons, vl_cons]

theorem mul_h {X : List Int} {j : Nat} {H vx : Int} (vy : Int) (hv : vx = vl X (j + 1) + pw (j + 1) * H) :
  vx = vl X j + pw j * (lz X j + 4294967296 * H) ∧ 4294967296 * (H * vy) + (vy * lz X j + 0) = (lz X j + 4294967296 * H) * vy := by
 constructor
 ·rw [hv, vl_succ, pw_succ, Int.mul_add, Int.mul_comm (lz X j) (pw j), Int.mul_comm 4294967296 (pw j), Int.mul_assoc]
  omega
 ·rw [Int.add_mul, Int.mul_comm vy (lz X j), Int.mul_assoc]
  omega
theorem h_bd {H x : Int} {m : Nat} (h0 : 0 ≤ H) (h1 : H < pw m) (hx0 : 0 ≤ x) (hx1 : x < 4294967296) : 0 ≤ x + 4294967296 * H ∧ x + 4294967296 * H < pw (m + 1) := by
 rw [pw_succ]
 omega

theorem rd_cell {w : World} {b off len cap i : Nat} {zs : List Int} (h : Rd w (some ⟨b, off, none⟩) len cap zs) (hi : i < len) : w.cell? ⟨b, off + i, none⟩ = some (.int .u32 (lz zs i)) := by
 obtain ⟨_, _, _, _, h5⟩ := h
 rcases h5 with ⟨h5, _⟩ | ⟨a, h5, h6⟩
 ·cases h5
 ·injection h5 with h5
  subst h5
  rcases h6 with h6 | ⟨b', o', h6, _, h7⟩
  ·omega
  ·injection h6 with e1 e2 _
   subst e1 e2
   exact h7 i hi
theorem Limbs.cons0 {zs : List Int} (h : Limbs zs) : Limbs (0 :: zs) := fun z hz => by
 rcases List.mem_cons.1 hz with rfl | h'
 ·decide
 ·exact h z h'
theorem prod_lt {a b A B : Int} (h0 : 0 ≤ a) (h1 : a < A) (h2 : 0 ≤ b) (h3 : b < B) : a * b < A * B := by
 have h4 : a * b ≤ a * B := Int.mul_le_mul_of_nonneg_left (Int.le_of_lt h3) h0
 have h5 : a * B < A * B := Int.mul_lt_mul_of_pos_right h1 (by omega)
 omega

set_option maxRecDepth 100000 in
set_option maxHeartbeats 3200000 in
theorem refmul_any {a1 a2 : Option Addr} {l1 c1 l2 c2 : Nat} {xs ys : List Int} {w : World} (h1 : Rd w a1 l1 c1 xs) (h2 : Rd w a2 l2 c2 ys) (hl1 : l1 ≤ 17179869184) (hl2 : l2 ≤ 17179869184) :
  Calls Tryd.prog 21 #[.slice a1 l1 c1, .slice a2 l2 c2] w fun e w' => ∃ ad len cap zs, e = .returned (.slice ad len cap) ∧ Out w w' ad len cap zs ∧ Canon zs ∧ val zs = val xs * val ys ∧ len ≤ l1 + l2 := by
 go_enter Tryd.func21, Tryd.ntmps21
 go_wp2_with fail
 refine (trim_any h1 (by omega)).mono ?_
 rintro e w1 ⟨rfl, ho1, -⟩
 have hn := tl_le xs l1
 have hX := ho1.rd
 have hvX := val_trim xs
 have hXl := hX.1
 replace h2 := h2.below ho1.1
 have b1 := ho1.1
 generalize trim xs = X at *
 generalize tl xs l1 = n at *
 clear ho1 h1
 have HX := hide hvX
 clear hvX
 have Y1 := (vl_bd h2.2.2.2.1 l2)
 have hvY : vl ys l2 = val ys := by unfold val; rw [h2.1]
 rw [hvY] at Y1
 have hXL := hX.2.2.2.1
 have HXL := hide hXl
 clear hXl hvY
 go_wp2_with fail
 go_loopw [6, 7] (fun o i wr => ∃ (j : Nat) (H : Int) (ad : Option Addr) (len cap : Nat) (zs : List Int), j ≤ n ∧ i = .int .i64 ((j : Int) - 1) ∧ o = .slice ad len cap ∧ Out w1 wr ad len cap zs ∧ Canon zs ∧ 0 ≤ H ∧ len ≤ n - j + l2 ∧ Hid (H < pw (n - j)) ∧ Hid (val zs = H * val ys) ∧ Hid (val X = vl X j + pw j * H)) (fun _ i _ => (intOf i + 1).toNat)
 case atStart =>
  refine ⟨n, 0, none, 0, 0, [], Nat.le_refl _, rfl, rfl, out_nil w1, canon_nil, Int.le_refl _, Nat.zero_le _, ?_, ?_, ?_⟩
  ·show _ < _; rw [Nat.sub_self]; decide
  ·show _ = _; simp [val, vl]
  ·show _ = _; rw [Int.mul_zero, Int.add_zero]; unfold val; rw [unhide HXL]
 case round =>
  obtain ⟨j, H, ad, len, cap, zs, hj, rfl, rfl, hO, hcn, hH0, hlen, HH, HV, HE⟩ := hrel
  by_cases hj0 : 0 < j
  ·obtain ⟨j, rfl⟩ : ∃ i, j = i + 1 := ⟨j - 1, by omega⟩
   have B1 := lz_bd hXL j
   by_cases hlen0 : len = 0
   ·subst hlen0
    have hz0 : zs = [] := List.length_eq_zero_iff.1 hO.rd.1
    have hmk := run_mk 1 (by decide)
    rw [show ((1 : Nat) : Int) = 1 from rfl, show List.replicate 1 (0 : Int) = [0] from rfl] at hmk
    have r0 := row_alloc wr [0]
    have r1 := rd_alloc hO.rd (.cells (U [0]) 49)
    obtain ⟨v', w3, hrun, ⟨kk, rfl⟩, hr, ho⟩ := run_copy_off (d := 0) (dLen := 0) (dCap := 0) r0 r1 (by simp) 3
    have hup : [0].take 0 ++ zs.take (min 0 0) ++ ([0] : List Int).drop (0 + min 0 0) = 0 :: zs := by
     simp
     exact hz0
    rw [hup] at hr
    have k3 : Below wr.heap.size wr w3 := (below_alloc wr (.cells (U [0]) 49)).trans (ho.below (Nat.le_refl _))
    have k13 := grow_step k3 hO.1
    have hcell := rd_cell (hX.below k13) (i := j) (by omega)
    rw [Nat.zero_add] at hcell
    have q2 := h2.below k13
    clear r0 r1 hup
    go_wp2_with fail
    refine (reftimes_any (n := lz X j) (m := 0) q2 (by omega) B1.1 B1.2 (by decide) (by decide)).mono ?_
    rintro e w4 ⟨a4, l4, c4, z4, rfl, ho4, hc4, hv4, hl4⟩
    have q3 := ((hr.rd (Limbs.cons0 hcn.1) (off := 0) (len := 1) (cap := 1) (by rw [hz0]; simp) (Nat.le_refl _) (by omega)).below ho4.1)
    rw [List.drop_zero, List.take_of_length_le (by rw [hz0]; simp)] at q3
    go_wp2_with fail
    refine (refadd_any q3 ho4.rd (by omega) (by omega)).mono ?_
    rintro e w5 ⟨a5, l5, c5, z5, rfl, ho5, hc5, hv5, hl5⟩
    have hh := mul_h (val ys) HE.out
    have hb := h_bd hH0 HH.out B1.1 B1.2
    rw [show n - (j + 1) + 1 = n - j from by omega] at hb
    have hval : val z5 = (lz X j + 4294967296 * H) * val ys := by
     rw [hv5, val_cons, hv4, HV.out, Int.zero_add]
     exact hh.2
    have hlen5 : l5 ≤ n - j + l2 := by
     rw [← ho5.rd.1]
     refine canon_len hc5 ?_
     rw [hval, pw_add]
     exact prod_lt hb.1 hb.2 Y1.1 Y1.2
    have HA := hide hval
    have HB := hide hh.1
    have HC := hide hb.2
    have hH1 := hb.1
    clear hval hh hb hv5 hv4
    go_wp2_with fail
    exact ⟨⟨j, _, a5, l5, c5, z5, by omega, by go_num, rfl, ho5.outer (grow_step ho4.1 k13), hc5, hH1, hlen5, HC, HA, HB⟩, by simp [intOf] <;> omega⟩
   ·have hlen1 : 0 < len := by omega
    have hmk := run_mk' len (by omega)
    have r0 := row_alloc wr (List.replicate (len + 1) 0)
    have r1 := rd_alloc hO.rd (.cells (U (List.replicate (len + 1) 0)) 49)
    obtain ⟨v', w3, hrun, ⟨kk, rfl⟩, hr, ho⟩ := run_copy_off (d := 1) (dLen := len) (dCap := len) r0 r1 (by rw [List.length_replicate]; omega) 3
    have hup : (List.replicate (len + 1) 0).take 1 ++ zs.take (min len len) ++ (List.replicate (len + 1) (0 : Int)).drop (1 + min len len) = 0 :: zs := by
     have e1 : zs.take (min len len) = zs := List.take_of_length_le (by have := hO.rd.1; omega)
     have e2 : (List.replicate (len + 1) (0 : Int)).drop (1 + min len len) = [] := List.drop_of_length_le (by rw [List.length_replicate]; omega)
     rw [e1, e2]
     simp [List.replicate_succ]
    rw [hup] at hr
    have k3 : Below wr.heap.size wr w3 := (below_alloc wr (.cells (U (List.replicate (len + 1) 0)) 49)).trans (ho.below (Nat.le_refl _))
    have k13 := grow_step k3 hO.1
    have hcell := rd_cell (hX.below k13) (i := j) (by omega)
    rw [Nat.zero_add] at hcell
    have q2 := h2.below k13
    clear r0 r1 hup
    go_wp2_with fail
    refine (reftimes_any (n := lz X j) (m := 0) q2 (by omega) B1.1 B1.2 (by decide) (by decide)).mono ?_
    rintro e w4 ⟨a4, l4, c4, z4, rfl, ho4, hc4, hv4, hl4⟩
    have q3 := ((hr.rd (Limbs.cons0 hcn.1) (off := 0) (len := len + 1) (cap := len + 1) (by have := hO.rd.1; simp; omega) (Nat.le_refl _) (by omega)).below ho4.1)
    rw [List.drop_zero, List.take_of_length_le (by have := hO.rd.1; simp; omega)] at q3
    go_wp2_with fail
    refine (refadd_any q3 ho4.rd (by omega) (by omega)).mono ?_
    rintro e w5 ⟨a5, l5, c5, z5, rfl, ho5, hc5, hv5, hl5⟩
    have hh := mul_h (val ys) HE.out
    have hb := h_bd hH0 HH.out B1.1 B1.2
    rw [show n - (j + 1) + 1 = n - j from by omega] at hb
    have hval : val z5 = (lz X j + 4294967296 * H) * val ys := by
     rw [hv5, val_cons, hv4, HV.out, Int.zero_add]
     exact hh.2
    have hlen5 : l5 ≤ n - j + l2 := by
     rw [← ho5.rd.1]
     refine canon_len hc5 ?_
     rw [hval, pw_add]
     exact prod_lt hb.1 hb.2 Y1.1 Y1.2
    have HA := hide hval
    have HB := hide hh.1
    have HC := hide hb.2
    have hH1 := hb.1
    clear hval hh hb hv5 hv4
    go_wp2_with fail
    exact ⟨⟨j, _, a5, l5, c5, z5, by omega, by go_num, rfl, ho5.outer (grow_step ho4.1 k13), hc5, hH1, hlen5, HC, HA, HB⟩, by simp [intOf] <;> omega⟩
  ·obtain rfl : j = 0 := by omega
   have HF : Hid (val zs = val xs * val ys) := by
    show _ = _
    rw [HV.out, ← HX.out, HE.out]
    simp [vl, pw]
   go_wp2_with fail
   refine (trim_any hO.rd (by omega)).mono ?_
   rintro e w4 ⟨rfl, ho4, -⟩
   have hlen' := tl_le zs len
   go_wp2_with fail
   go_ret
   exact ⟨_, _, _, _, rfl, (ho4.outer hO.1).outer b1, canon_trim hO.rd.2.2.2.1, (val_trim _).trans HF.out, by omega⟩

end Go.Proofs.YtndhjoofbkgkiaaDoor
