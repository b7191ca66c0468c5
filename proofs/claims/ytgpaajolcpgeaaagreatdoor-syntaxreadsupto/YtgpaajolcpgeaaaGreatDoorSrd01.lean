/-
 Several texts in one: W1, W2, W3, W4, W5, App, W6, W7, W8, D1, D2, D3.
-/
import Derived.Test.YtgpaajolcpgeaaaGreatDoorChecked
import Derived.Test.YtgpaajolcpgeaaaGreatDoorSrd00
import Derived.WalkKit
import Derived.WalkLawsBesides
import Derived.WalkMore
import Derived.Deep.QuietTactic
import Derived.BigQuiet
namespace Go.Proofs.YtgpaajolcpgeaaaGreatDoor
open Go.RowKit

theorem ret_slice {a b : Option Addr} {n m c d : Nat} (h : a = b) (h1 : n = m) (h2 : c = d) : Ending.returned (.slice a n c) = .returned (.slice b m d) := by rw [h, h1, h2]

set_option maxHeartbeats 400000 in
theorem bare_walk (b off len cap : Nat) (zs : List Int) (w : World) (hcap : len ≤ cap) (hbig : cap ≤ 9223372036854775807)
  (hc : ∀ j, j < len → w.cell? ⟨b, off + j, none⟩ = some (.int .u32 (lz zs j))) :
  Calls Tryz.prog 121 #[.slice (some ⟨b, off, none⟩) len cap] w fun e w' => e = .returned (.slice (some ⟨b, off, none⟩) (tl zs len) cap) ∧ w = w' := by
 go_enter Tryz.func121, Tryz.ntmps121
 go_wp2
 go_step3
 go_wp2
 go_step3
 go_wp2
 go_loop [3] (fun n => ∃ k : Nat, k ≤ len ∧ n = .int .i64 k ∧ tl zs len = tl zs k) (fun n => (intOf n).toNat)
 case atStart => exact ⟨len, Nat.le_refl _, rfl, rfl⟩
 case round =>
  obtain ⟨k, hk, rfl, ht⟩ := hrel
  have HT : Hid (tl zs len = tl zs k) := ht
  clear ht
  cases k with
  | zero =>
   go_wp2
   go_ret
   exact ⟨ret_slice rfl (by rw [HT.out]; rfl) rfl, rfl⟩
  | succ m =>
   have hcm := hc m (by omega)
   by_cases hz0 : lz zs m = 0
   ·have HZ : Hid (lz zs m = 0) := hz0
    have hz1 : (lz zs m == 0) = true := by simp [hz0]
    clear hz0
    go_wp2
    go_round
    case rel => exact ⟨m, by omega, by go_num, by rw [HT.out]; conv => lhs; rw [tl, if_pos HZ.out]⟩
    case measure => simp [intOf]
   ·have HZ : Hid (¬ lz zs m = 0) := hz0
    have hz1 : (lz zs m == 0) = false := by simp [hz0]
    clear hz0
    go_wp2
    go_ret
    exact ⟨ret_slice rfl (by rw [HT.out, tl, if_neg HZ.out]) rfl, rfl⟩

set_option maxHeartbeats 400000 in
theorem bare_none (a : Option Addr) (cap : Nat) (w : World) (hbig : cap ≤ 9223372036854775807) (hn : a = none → cap = 0) :
  Calls Tryz.prog 121 #[.slice a 0 cap] w fun e w' => e = .returned (.slice a 0 cap) ∧ w = w' := by
 cases a with
 | none =>
  obtain rfl := hn rfl
  go_enter Tryz.func121, Tryz.ntmps121
  go_wp2
  go_step3
  go_wp2
  go_step3
  go_wp2
  refine wp_loop_rounds 1 ?_
  rw [rounds_succ]
  go_wp2
  rw [Exit.noGoto_ret]
  go_ret
  exact ⟨rfl, rfl⟩
 | some a =>
  go_enter Tryz.func121, Tryz.ntmps121
  go_wp2
  go_step3
  go_wp2
  go_step3
  go_wp2
  refine wp_loop_rounds 1 ?_
  rw [rounds_succ]
  go_wp2
  rw [Exit.noGoto_ret]
  go_ret
  exact ⟨rfl, rfl⟩

/-- bare: the same memory, without the noughts at the end. -/
theorem bare_any {ad : Option Addr} {len cap : Nat} {zs : List Int} {w : World} (h : Rd w ad len cap zs) :
  Calls Tryz.prog 121 #[.slice ad len cap] w fun e w' => e = .returned (.slice ad (tl zs len) cap) ∧ w = w' := by
 obtain ⟨h1, h2, h3, h4, h5⟩ := h
 rcases h5 with ⟨rfl, rfl, rfl⟩ | ⟨a, rfl, rfl | ⟨b, off, rfl, _, hc⟩⟩
 ·exact bare_none none 0 w (by decide) (fun _ => rfl)
 ·exact bare_none (some a) cap w h3 (fun h => by cases h)
 ·exact bare_walk b off len cap zs w h2 h3 hc

set_option maxHeartbeats 400000 in
/-- limb: the limb at a place; 0 behind the end. -/
theorem limb_any {ad : Option Addr} {len cap : Nat} {zs : List Int} {w : World} (h : Rd w ad len cap zs) (i : Int) (h0 : 0 ≤ i) (hi : i ≤ 9223372036854775807) :
  Calls Tryz.prog 170 #[.slice ad len cap, .int .i64 i] w fun e w' => e = .returned (.int .u64 (lz zs i.toNat)) ∧ w = w' := by
 obtain ⟨n, rfl⟩ := Int.eq_ofNat_of_zero_le h0
 rw [Int.toNat_natCast]
 obtain ⟨h1, h2, h3, h4, h5⟩ := h
 by_cases hlt : n < len
 ·rcases h5 with ⟨_, h6, _⟩ | ⟨a, rfl, h6 | ⟨b, off, rfl, _, hc⟩⟩
  ·omega
  ·omega
  ·have hcn := hc n hlt
   have hb := lz_bd h4 n
   clear hc
   go_enter Tryz.func170, Tryz.ntmps170
   go_wp2
   go_ret
   exact ⟨rfl, rfl⟩
 ·have hz := lz_out (zs := zs) (i := n) (by omega)
  have HZ : Hid (lz zs n = 0) := hz
  clear hz h5
  go_enter Tryz.func170, Tryz.ntmps170
  go_wp2
  go_ret
  rw [HZ.out]
  exact ⟨rfl, rfl⟩

end Go.Proofs.YtgpaajolcpgeaaaGreatDoor

namespace Go.Proofs.YtgpaajolcpgeaaaGreatDoor
open Go.RowKit

/-- the cells of a slice with an element, by its address -/
theorem Rd.some {w : World} {ad : Option Addr} {len cap : Nat} {zs : List Int} (h : Rd w ad len cap zs) (hp : 0 < len) : ∃ b off, ad = some ⟨b, off, none⟩ ∧ ∀ i, i < len → w.cell? ⟨b, off + i, none⟩ = some (.int .u32 (lz zs i)) := by
 obtain ⟨h1, h2, h3, h4, h5⟩ := h
 rcases h5 with ⟨_, h6, _⟩ | ⟨a, rfl, h6 | ⟨b, off, rfl, _, hc⟩⟩
 ·omega
 ·omega
 ·exact ⟨b, off, rfl, hc⟩

theorem cmpI_lt {a b : Int} (h : a < b) : cmpI a b = -1 := by unfold cmpI; rw [if_pos h]
theorem cmpI_gt {a b : Int} (h : b < a) : cmpI a b = 1 := by unfold cmpI; rw [if_neg (by omega), if_pos h]
theorem cmpI_eq {a b : Int} (h : a = b) : cmpI a b = 0 := by unfold cmpI; rw [if_neg (by omega), if_neg (by omega)]
theorem ret_int {k : IntKind} {a b : Int} (h : a = b) : Ending.returned (.int k a) = .returned (.int k b) := by rw [h]

/-- bare of a row of the call's own -/
theorem bare_own {w : World} {b : Nat} {xs : List Int} {n : Nat} (h : Row w b xs) (hl : Limbs xs) (hn : xs.length = n) (hm : n ≤ 9223372036854775807) :
  Calls Tryz.prog 121 #[.slice (some ⟨b, 0, none⟩) n n] w fun e w' => e = .returned (.slice (some ⟨b, 0, none⟩) (tl xs n) n) ∧ w = w' := by
 have := h.rd hl (off := 0) (len := n) (cap := n) (by omega) (Nat.le_refl _) hm
 rw [List.drop_zero, List.take_of_length_le (by omega)] at this
 exact bare_any this

theorem own_trim {w w' : World} {xs : List Int} {n : Nat} (hb : Below w.heap.size w w') (h : Row w' w.heap.size xs) (hl : Limbs xs) (hn : xs.length = n) (hm : n ≤ 9223372036854775807) :
  Out w w' (some ⟨w.heap.size, 0, none⟩) (tl xs n) n (trim xs) ∧ Canon (trim xs) ∧ val (trim xs) = val xs ∧ tl xs n ≤ n := by
 refine ⟨?_, canon_trim hl, val_trim xs, tl_le _ _⟩
 unfold trim
 rw [hn]
 exact out_row hb h hl hn (tl_le _ _) hm

theorem drewN_drewN (w : World) (a b : Nat) : (w.drewN a).drewN b = w.drewN (a + b) := by simp [World.drewN, Nat.add_assoc]

set_option maxHeartbeats 800000 in
theorem cmp_any {a1 a2 : Option Addr} {l1 c1 l2 c2 : Nat} {xs ys : List Int} {w : World} (h1 : Rd w a1 l1 c1 xs) (h2 : Rd w a2 l2 c2 ys) :
  Calls Tryz.prog 126 #[.slice a1 l1 c1, .slice a2 l2 c2] w fun e w' => e = .returned (.int .i64 (cmpI (val xs) (val ys))) ∧ ∃ n, w' = w.drewN n := by
 have t1 := h1.trim
 have t2 := h2.trim
 have k1 := canon_trim h1.2.2.2.1
 have k2 := canon_trim h2.2.2.2.1
 have e1 := val_trim xs
 have e2 := val_trim ys
 generalize hX : trim xs = X at *
 generalize hY : trim ys = Y at *
 clear hX hY
 generalize hn1 : tl xs l1 = n1 at *
 generalize hn2 : tl ys l2 = n2 at *
 have HN1 : Hid (tl xs l1 = n1) := hn1
 have HN2 : Hid (tl ys l2 = n2) := hn2
 have E1 : Hid (val X = val xs) := e1
 have E2 : Hid (val Y = val ys) := e2
 have L1 : Hid (X.length = n1) := t1.1
 have L2 : Hid (Y.length = n2) := t2.1
 have hc1 : n1 ≤ c1 := t1.2.1
 have hc1' : c1 ≤ 9223372036854775807 := t1.2.2.1
 clear hn1 hn2 e1 e2
 rcases Nat.lt_trichotomy n1 n2 with hlt | heq | hgt
 ·go_enter Tryz.func126, Tryz.ntmps126
  go_wp2_with fail
  refine (bare_any h1).mono ?_
  rintro e w' ⟨rfl, rfl⟩
  rw [HN1.out]
  go_wp2_with fail
  refine (bare_any h2).mono ?_
  rintro e w' ⟨rfl, rfl⟩
  rw [HN2.out]
  go_wp2_with fail
  go_ret
  exact ⟨ret_int (by rw [← E1.out, ← E2.out, cmpI_lt]; exact val_lt_of_length k1.1 k2 (by rw [L1.out, L2.out]; exact hlt)), 0, rfl⟩
 ·subst heq
  by_cases h0 : n1 = 0
  ·subst h0
   have ex : X = [] := List.eq_nil_of_length_eq_zero L1.out
   have ey : Y = [] := List.eq_nil_of_length_eq_zero L2.out
   subst ex ey
   go_enter Tryz.func126, Tryz.ntmps126
   go_wp2_with fail
   refine (bare_any h1).mono ?_
   rintro e w' ⟨rfl, rfl⟩
   rw [HN1.out]
   go_wp2_with fail
   refine (bare_any h2).mono ?_
   rintro e w' ⟨rfl, rfl⟩
   rw [HN2.out]
   go_wp2_with fail
   refine wp_loop_rounds 1 ?_
   rw [rounds_succ]
   go_wp2
   go_ret
   exact ⟨ret_int (by rw [← E1.out, ← E2.out, cmpI_eq rfl]), 0, rfl⟩
  ·obtain ⟨b1, o1, rfl, g1⟩ := t1.some (by omega)
   obtain ⟨b2, o2, rfl, g2⟩ := t2.some (by omega)
   go_enter Tryz.func126, Tryz.ntmps126
   go_wp2_with fail
   refine (bare_any h1).mono ?_
   rintro e w' ⟨rfl, rfl⟩
   rw [HN1.out]
   go_wp2_with fail
   refine (bare_any h2).mono ?_
   rintro e w' ⟨rfl, rfl⟩
   rw [HN2.out]
   clear h1 h2 t1 t2
   go_wp2_with fail
   go_loopw [5] (fun i wr => ∃ k q : Nat, k ≤ n1 ∧ i = .int .i64 ((k : Int) - 1) ∧ (∀ j, k ≤ j → j < n1 → lz X j = lz Y j) ∧ wr = w.drewN q) (fun i _ => (intOf i + 1).toNat)
   case atStart => exact ⟨n1, 0, Nat.le_refl _, rfl, fun j hj1 hj2 => absurd hj1 (by omega), rfl⟩
   case round =>
    obtain ⟨k, q, hk, rfl, hs, rfl⟩ := hrel
    have HS : Hid (∀ j, k ≤ j → j < n1 → lz X j = lz Y j) := hs
    clear hs
    cases k with
    | zero =>
     go_wp2
     go_ret
     exact ⟨ret_int (by rw [← E1.out, ← E2.out, cmpI_eq]; exact (by unfold val; rw [L1.out, L2.out]; exact vl_congr (fun i hi => HS.out i (by omega) hi))), q, rfl⟩
    | succ m =>
     have gm1 := g1 m (by omega)
     have gm2 := g2 m (by omega)
     have hm : (m : Int) < n1 := by omega
     rcases Int.lt_trichotomy (lz X m) (lz Y m) with hl | hl | hl
     ·have hv : cmpI (val xs) (val ys) = -1 := by rw [← E1.out, ← E2.out, cmpI_lt]; unfold val; rw [L1.out, L2.out]; exact vl_lt_of_lz k1.1 k2.1 (i := m) (by omega) (fun j h1 h2 => HS.out j (by omega) h2) hl
      have HV := hide hv
      clear hv
      go_wp2
      go_quiet (fail)
      go_wp2
      go_ret
      exact ⟨ret_int (unhide HV).symm, q + nq, drewN_drewN _ _ _⟩
     ·have HL : Hid (lz X m = lz Y m) := hl
      have f1 : decide (lz X m < lz Y m) = false := by simp; omega
      have f2 : decide (lz Y m < lz X m) = false := by simp; omega
      clear hl
      go_wp2
      go_quiet (fail)
      obtain ⟨n0, hn0⟩ : ∃ n0, n0 = nq := ⟨_, rfl⟩
      subst hn0
      go_wp2
      go_quiet (fail)
      go_wp2
      go_roundw
      case rel => exact ⟨m, q + n0 + nq, by omega, by go_num, fun j h1 h2 => (by by_cases e : j = m; { rw [e]; exact HL.out }; { exact HS.out j (by omega) h2 }), by simp⟩
      case measure => simp [intOf]
     ·have hv : cmpI (val xs) (val ys) = 1 := by rw [← E1.out, ← E2.out, cmpI_gt]; unfold val; rw [L1.out, L2.out]; exact vl_lt_of_lz k2.1 k1.1 (i := m) (by omega) (fun j h1 h2 => (HS.out j (by omega) h2).symm) hl
      have HV := hide hv
      clear hv
      have f1 : decide (lz X m < lz Y m) = false := by simp; omega
      go_wp2
      go_quiet (fail)
      obtain ⟨n0, hn0⟩ : ∃ n0, n0 = nq := ⟨_, rfl⟩
      subst hn0
      go_wp2
      go_quiet (fail)
      go_wp2
      go_ret
      exact ⟨ret_int (unhide HV).symm, q + n0 + nq, by simp⟩
 ·go_enter Tryz.func126, Tryz.ntmps126
  go_wp2_with fail
  refine (bare_any h1).mono ?_
  rintro e w' ⟨rfl, rfl⟩
  rw [HN1.out]
  go_wp2_with fail
  refine (bare_any h2).mono ?_
  rintro e w' ⟨rfl, rfl⟩
  rw [HN2.out]
  go_wp2_with fail
  go_ret
  exact ⟨ret_int (by rw [← E1.out, ← E2.out, cmpI_gt]; exact val_lt_of_length k2.1 k1 (by rw [L1.out, L2.out]; exact hgt)), 0, rfl⟩

end Go.Proofs.YtgpaajolcpgeaaaGreatDoor

namespace Go.Proofs.YtgpaajolcpgeaaaGreatDoor
open Go.RowKit

theorem info49 : (Tryz.prog.info? 63).map (fun i => (i.zero, i.size, i.bytes)) = some (some (.int .u32 0), 1, 4) := by kernel_rfl

theorem made_zero (n : Nat) : madeCells #[.int .u32 0] n = U (List.replicate n 0) := by
  apply Array.ext'
  rw [toList_madeCells_one]
  simp [U]

theorem run_mk (n : Nat) (hn : n ≤ 70368744177664) (u : World) : (Instr.makeSlice 23 (.int .i64 (n : Int)) (.int .i64 (n : Int))).run Tryz.prog u =
      .ok (.slice (some ⟨u.heap.size, 0, none⟩) n n) (u.alloc (.cells (U (List.replicate n 0)) 63)) := by
  obtain ⟨i0, hi, hz0, hz1, hz2⟩ := info_parts info49
  have h := run_make (P := Tryz.prog) u 23 63 i0 (.int .u32 0) Tryz.underlying23 hi hz0 .i64 .i64 (n : Int) (n : Int) (by omega) (Int.le_refl _) (by rw [hz2]; omega) (by omega)
  rw [Int.toNat_natCast] at h
  rw [← made_zero]
  simpa [hz1, Value.cells] using h

theorem run_mk' (n : Nat) (hn : n + 1 ≤ 70368744177664) (u : World) : (Instr.makeSlice 23 (.int .i64 ((n : Int) + 1)) (.int .i64 ((n : Int) + 1))).run Tryz.prog u =
      .ok (.slice (some ⟨u.heap.size, 0, none⟩) (n + 1) (n + 1)) (u.alloc (.cells (U (List.replicate (n + 1) 0)) 63)) := run_mk (n + 1) hn u

theorem row_alloc (w : World) (xs : List Int) : Row (w.alloc (.cells (U xs) 63)) w.heap.size xs := heap_alloc_new w _

theorem mask64 (x : Int) (h0 : 0 ≤ x) (h1 : x < 18446744073709551616) : bits .and .u64 x 4294967295 = x % 4294967296 := by
  rw [u64_and x 4294967295 h0 h1 (by decide) (by decide)]
  have e : (4294967295 : Int).toNat = 2 ^ 32 - 1 := by decide
  rw [e, Nat.and_two_pow_sub_one_eq_mod]
  omega

theorem below_set {w wr : World} (h : Below w.heap.size w wr) (k : Nat) (v : Value) : Below w.heap.size w (wr.setCell ⟨w.heap.size, k, none⟩ v) := h.setCell (Nat.le_refl _) v

theorem size_set (w : World) (a : Addr) (v : Value) : (w.setCell a v).heap.size = w.heap.size := by simp [World.setCell]

set_option maxRecDepth 100000 in
set_option maxHeartbeats 1600000 in
theorem add_any {a1 a2 : Option Addr} {l1 c1 l2 c2 : Nat} {xs ys : List Int} {w : World} (h1 : Rd w a1 l1 c1 xs) (h2 : Rd w a2 l2 c2 ys) (hl1 : l1 ≤ 1099511627776) (hl2 : l2 ≤ 1099511627776) :
    Calls Tryz.prog 150 #[.slice a1 l1 c1, .slice a2 l2 c2] w fun e w' => ∃ ad len cap zs, e = .returned (.slice ad len cap) ∧ Out w w' ad len cap zs ∧ Canon zs ∧ val zs = val xs + val ys ∧ len ≤ max l1 l2 + 1 := by
  have t1 := h1.trim
  have t2 := h2.trim
  have e1 := val_trim xs
  have e2 := val_trim ys
  have b1 : tl xs l1 ≤ l1 := tl_le _ _
  have b2 : tl ys l2 ≤ l2 := tl_le _ _
  generalize hX : trim xs = X at *
  generalize hY : trim ys = Y at *
  clear hX hY
  generalize hn1 : tl xs l1 = n1 at *
  generalize hn2 : tl ys l2 = n2 at *
  have HN1 : Hid (tl xs l1 = n1) := hn1
  have HN2 : Hid (tl ys l2 = n2) := hn2
  have E1 : Hid (val X = val xs) := e1
  have E2 : Hid (val Y = val ys) := e2
  have L1 : Hid (X.length = n1) := t1.1
  have L2 : Hid (Y.length = n2) := t2.1
  clear hn1 hn2 e1 e2
  go_enter Tryz.func150, Tryz.ntmps150
  go_wp2_with fail
  refine (bare_any h1).mono ?_
  rintro e w' ⟨rfl, rfl⟩
  rw [HN1.out]
  go_wp2_with fail
  refine (bare_any h2).mono ?_
  rintro e w' ⟨rfl, rfl⟩
  rw [HN2.out]
  have hsplit : (n1 < n2) ∨ ¬ (n1 < n2) := Decidable.em _
  rcases hsplit with hlt | hlt
  · obtain ⟨N, rfl⟩ : ∃ N, N = n2 := ⟨_, rfl⟩
    have hmk := run_mk' N (by omega)
    go_wp2_with fail
    go_loopw [7, 22] (fun c i wr => ∃ (k : Nat) (cr : Int) (zs : List Int), k ≤ N ∧ i = .int .i64 k ∧ c = .int .u64 cr ∧ 0 ≤ cr ∧ cr ≤ 1 ∧ zs.length = N + 1 ∧ Limbs zs ∧ Row wr w.heap.size zs ∧ Below w.heap.size w wr ∧ wr.heap.size = w.heap.size + 1 ∧ vl zs k + cr * pw k = vl X k + vl Y k) (fun _ i _ => N - (intOf i).toNat)
    case atStart => exact ⟨0, 0, _, Nat.zero_le _, rfl, rfl, by decide, by decide, List.length_replicate, Limbs.replicate _, row_alloc w _, (Below.refl _ _).alloc (Nat.le_refl _) _, by simp, by simp [vl]⟩
    case round =>
      obtain ⟨k, cr, zs, hk, rfl, rfl, hc0, hc1, hzl, hzL, hrow, hbel, hsz, hv⟩ := hrel
      have HV := hide hv
      have hcell := hrow.cell (i := k) (by omega)
      have hfr := hrow.frozen k
      clear hv hmk
      by_cases hkN : k < N
      · have q1 := t1.below hbel
        have q2 := t2.below hbel
        go_wp2_with fail
        refine (limb_any q1 (k : Int) (by omega) (by omega)).mono ?_
        rintro e w' ⟨rfl, rfl⟩
        rw [Int.toNat_natCast]
        go_wp2_with fail
        refine (limb_any q2 (k : Int) (by omega) (by omega)).mono ?_
        rintro e w' ⟨rfl, rfl⟩
        rw [Int.toNat_natCast]
        have B1 := lz_bd q1.2.2.2.1 k
        have B2 := lz_bd q2.2.2.2.1 k
        have HS : Hid (vl (zs.set k ((cr + (lz X k + lz Y k)) % 4294967296)) (k + 1) + ((cr + (lz X k + lz Y k)) / 4294967296) * pw (k + 1) = vl X (k + 1) + vl Y (k + 1)) := by
          have := carry_step (zs := zs) (k := k) (cr := cr) (s := lz X k + lz Y k) (T := _) (by omega) (unhide HV)
          rw [Int.add_mul] at this
          show _ = _; rw [this, vl_succ, vl_succ]; omega
        clear HV q1 q2
        generalize lz X k = x at *
        generalize lz Y k = y at *
        go_wp2_with fail
        rw [mask64 _ (by omega) (by omega), Int.emod_emod_of_dvd _ (Int.dvd_refl _)]
        exact ⟨⟨k + 1, _, _, by omega, by go_num, rfl, by omega, by omega, by rw [List.length_set]; exact hzl, hzL.set k (by omega) (by omega), hrow.set k _, below_set hbel k _, by rw [size_set]; exact hsz, unhide HS⟩, by simp [intOf]; omega⟩
      · obtain rfl : k = N := by omega
        go_wp2_with fail
        have hset := hrow.set k cr
        have hlim := hzL.set k (x := cr) (by omega) (by omega)
        have hbel' := below_set hbel k (.int .u32 cr)
        have hval : Hid (val (zs.set k cr) = val xs + val ys) := by
          show _ = _
          have e : val (zs.set k cr) = vl (zs.set k cr) (k + 1) := by unfold val; rw [List.length_set, hzl]
          rw [e, vl_succ, vl_set_past _ _ _ _ (Nat.le_refl _) (by omega), lz_set _ _ _ _ (by omega), if_pos rfl, unhide HV, vl_ge (by have := L1.out; omega), vl_ge (by have := L2.out; omega), E1.out, E2.out]
        have hlen' : (zs.set k cr).length = k + 1 := by rw [List.length_set]; exact hzl
        clear HV hcell hfr hrow hbel hsz
        refine (bare_own hset hlim hlen' (by omega)).mono ?_
        rintro e w' ⟨rfl, rfl⟩
        go_wp2_with fail
        go_ret
        obtain ⟨o1, o2, o3, o4⟩ := own_trim hbel' hset hlim hlen' (by omega)
        exact ⟨_, _, _, _, rfl, o1, o2, o3.trans (unhide hval), by omega⟩
  · obtain ⟨N, rfl⟩ : ∃ N, N = n1 := ⟨_, rfl⟩
    have hmk := run_mk' N (by omega)
    go_wp2_with fail
    go_loopw [7, 22] (fun c i wr => ∃ (k : Nat) (cr : Int) (zs : List Int), k ≤ N ∧ i = .int .i64 k ∧ c = .int .u64 cr ∧ 0 ≤ cr ∧ cr ≤ 1 ∧ zs.length = N + 1 ∧ Limbs zs ∧ Row wr w.heap.size zs ∧ Below w.heap.size w wr ∧ wr.heap.size = w.heap.size + 1 ∧ vl zs k + cr * pw k = vl X k + vl Y k) (fun _ i _ => N - (intOf i).toNat)
    case atStart => exact ⟨0, 0, _, Nat.zero_le _, rfl, rfl, by decide, by decide, List.length_replicate, Limbs.replicate _, row_alloc w _, (Below.refl _ _).alloc (Nat.le_refl _) _, by simp, by simp [vl]⟩
    case round =>
      obtain ⟨k, cr, zs, hk, rfl, rfl, hc0, hc1, hzl, hzL, hrow, hbel, hsz, hv⟩ := hrel
      have HV := hide hv
      have hcell := hrow.cell (i := k) (by omega)
      have hfr := hrow.frozen k
      clear hv hmk
      by_cases hkN : k < N
      · have q1 := t1.below hbel
        have q2 := t2.below hbel
        go_wp2_with fail
        refine (limb_any q1 (k : Int) (by omega) (by omega)).mono ?_
        rintro e w' ⟨rfl, rfl⟩
        rw [Int.toNat_natCast]
        go_wp2_with fail
        refine (limb_any q2 (k : Int) (by omega) (by omega)).mono ?_
        rintro e w' ⟨rfl, rfl⟩
        rw [Int.toNat_natCast]
        have B1 := lz_bd q1.2.2.2.1 k
        have B2 := lz_bd q2.2.2.2.1 k
        have HS : Hid (vl (zs.set k ((cr + (lz X k + lz Y k)) % 4294967296)) (k + 1) + ((cr + (lz X k + lz Y k)) / 4294967296) * pw (k + 1) = vl X (k + 1) + vl Y (k + 1)) := by
          have := carry_step (zs := zs) (k := k) (cr := cr) (s := lz X k + lz Y k) (T := _) (by omega) (unhide HV)
          rw [Int.add_mul] at this
          show _ = _; rw [this, vl_succ, vl_succ]; omega
        clear HV q1 q2
        generalize lz X k = x at *
        generalize lz Y k = y at *
        go_wp2_with fail
        rw [mask64 _ (by omega) (by omega), Int.emod_emod_of_dvd _ (Int.dvd_refl _)]
        exact ⟨⟨k + 1, _, _, by omega, by go_num, rfl, by omega, by omega, by rw [List.length_set]; exact hzl, hzL.set k (by omega) (by omega), hrow.set k _, below_set hbel k _, by rw [size_set]; exact hsz, unhide HS⟩, by simp [intOf]; omega⟩
      · obtain rfl : k = N := by omega
        go_wp2_with fail
        have hset := hrow.set k cr
        have hlim := hzL.set k (x := cr) (by omega) (by omega)
        have hbel' := below_set hbel k (.int .u32 cr)
        have hval : Hid (val (zs.set k cr) = val xs + val ys) := by
          show _ = _
          have e : val (zs.set k cr) = vl (zs.set k cr) (k + 1) := by unfold val; rw [List.length_set, hzl]
          rw [e, vl_succ, vl_set_past _ _ _ _ (Nat.le_refl _) (by omega), lz_set _ _ _ _ (by omega), if_pos rfl, unhide HV, vl_ge (by have := L1.out; omega), vl_ge (by have := L2.out; omega), E1.out, E2.out]
        have hlen' : (zs.set k cr).length = k + 1 := by rw [List.length_set]; exact hzl
        clear HV hcell hfr hrow hbel hsz
        refine (bare_own hset hlim hlen' (by omega)).mono ?_
        rintro e w' ⟨rfl, rfl⟩
        go_wp2_with fail
        go_ret
        obtain ⟨o1, o2, o3, o4⟩ := own_trim hbel' hset hlim hlen' (by omega)
        exact ⟨_, _, _, _, rfl, o1, o2, o3.trans (unhide hval), by omega⟩
end Go.Proofs.YtgpaajolcpgeaaaGreatDoor

namespace Go.Proofs.YtgpaajolcpgeaaaGreatDoor
open Go.RowKit

theorem below_drewN (B : Nat) (w : World) (q : Nat) : Below B w (w.drewN q) := ⟨rfl, rfl, rfl, Nat.le_refl _, fun _ _ => rfl⟩
end Go.Proofs.YtgpaajolcpgeaaaGreatDoor

namespace Go.Proofs.YtgpaajolcpgeaaaGreatDoor
open Go.RowKit

end Go.Proofs.YtgpaajolcpgeaaaGreatDoor

namespace Go.Proofs.YtgpaajolcpgeaaaGreatDoor
open Go.RowKit

theorem wpList_append_run {P : Program} {w : World} {ops : Array Oper} {rest : List Oper} {o : Oper} {a : Act} {Q : Exit → Act → World → Prop} (hgd : o.guard = none) (s x : Operand) (t : TypeId)
  (ho : o.op = .call { callee := .builtin .append, args := #[s, x], argTypes := #[t, t] }) (v1 v2 : Value) (hs : a.eval s = v1) (hx : a.eval x = v2) (F : Value → World → Prop)
  (hr : ∃ v' w', (Builtin.append_ #[t, t] o.type #[v1, v2]).run P w = .ok v' w' ∧ F v' w')
  (h : ∀ v' w', F v' w' → wpList P ops Q rest (a.put o.dst v') w') : wpList P ops Q (o :: rest) a w := by
 obtain ⟨v', w', hr, hF⟩ := hr
 refine wpList_plain hgd fun K hK => ?_
 unfold Oper.wp execOp
 simp only [ho, resolve, invoke, builtin, Sem.run_bind, Sem.run_pure, Result.andThen_ok, List.map_toArray, List.map_cons, List.map_nil, hs, hx, hr]
 exact hK _ _ (h v' w' hF)

theorem zeroCells_eq (n : Nat) : Builtin.zeroCells (Value.int .u32 0).cells n = U (List.replicate n 0) := by
 apply Array.ext'
 apply List.ext_getElem?
 intro j
 by_cases hj : j < n
 ·simp [Builtin.zeroCells, Value.cells, U, hj, Nat.mod_one]
 ·simp [Builtin.zeroCells, Value.cells, U, hj]

theorem U_append (xs ys : List Int) : U xs ++ U ys = U (xs ++ ys) := by simp [U]

theorem row_drew_alloc (w : World) (xs : List Int) : Row (w.drew.alloc (.cells (U xs) 63)) w.heap.size xs := heap_alloc_new w.drew _

theorem Limbs.append {xs ys : List Int} (h : Limbs xs) (k : Limbs ys) : Limbs (xs ++ ys) := fun z hz => (List.mem_append.1 hz).elim (h z) (k z)
theorem Limbs.drop {zs : List Int} (h : Limbs zs) (n : Nat) : Limbs (zs.drop n) := fun z hz => h z (List.mem_of_mem_drop hz)

theorem lz_map {xs : List Int} {j : Nat} {v : Value} (h : (xs.map (Value.int .u32))[j]? = some v) : j < xs.length ∧ v = .int .u32 (lz xs j) := by
 rw [List.getElem?_map] at h
 cases hq : xs[j]? with
 | none => rw [hq] at h; cases h
 | some y =>
  rw [hq] at h
  simp only [Option.map_some, Option.some.injEq] at h
  refine ⟨(List.getElem?_eq_some_iff.1 hq).1, ?_⟩
  rw [← h]
  simp [lz, List.getD, hq]

theorem info49a : (Tryz.prog.info? 63).map (fun i => (i.zero, i.size, i.bytes)) = some (some (.int .u32 0), 1, 4) := by kernel_rfl

theorem below_drew_alloc {w0 w : World} (h : Below w0.heap.size w0 w) (o : Obj) : Below w0.heap.size w0 (w.drew.alloc o) :=
 (h.drew).alloc (by have := h.size; simpa using this) o

theorem grown_drew_alloc (w : World) (o : Obj) (row : Option Nat) : w.grownBy (w.drew.alloc o) row :=
 ⟨rfl, rfl, rfl, by simp, fun k hk _ => Below.heap_alloc w.drew o k hk⟩

/-- append onto an answer of the call's own, from cells that lie somewhere -/
theorem run_append_out {w0 w : World} {ad : Option Addr} {n cap : Nat} {xs : List Int} (hO : Out w0 w ad n cap xs) (ty : TypeId) (a : Addr) (m c : Nat) (news : List Int) (hl : news.length = m) (hL : Limbs news)
  (hnews : ∀ j, j < m → w.cell? (a.add j) = some (.int .u32 (lz news j))) (hbig : n + m ≤ 35184372088832) :
  ∃ v' w', (Builtin.append_ #[23, 23] ty #[.slice ad n cap, .slice (some a) m c]).run Tryz.prog w = .ok v' w' ∧ ∃ ad' cap', v' = .slice ad' (n + m) cap' ∧ Out w0 w' ad' (n + m) cap' (xs ++ news) ∧ w.grownBy w' (blk ad) ∧ (∀ k, blk ad' = some k → blk ad = some k ∨ w.heap.size ≤ k) := by
 obtain ⟨i0, hi, hz0, hz1, hz2⟩ := info_parts info49a
 have hnv : ∀ j v, (news.map (Value.int .u32))[j]? = some v → w.cell? (a.add j) = some v := fun j v hv => by
  obtain ⟨h1, rfl⟩ := lz_map hv
  exact hnews j (by omega)
 have hone : ∀ u ∈ news.map (Value.int .u32), u.oneCell' = true := fun u hu => by
  obtain ⟨z, _, rfl⟩ := List.mem_map.1 hu; rfl
 obtain ⟨hB, ⟨rfl, rfl, rfl, rfl⟩ | ⟨b, zs, rfl, hb, hr, hlz, hzl, hle, hm, rfl⟩⟩ := hO
 ·by_cases h0 : m = 0
  ·subst h0
   obtain rfl : news = [] := List.eq_nil_of_length_eq_zero hl
   refine ⟨.slice none 0 0, w, ?_, none, 0, rfl, ⟨hB, .inl ⟨rfl, rfl, rfl, rfl⟩⟩, ⟨rfl, rfl, rfl, Nat.le_refl _, fun _ _ _ => rfl⟩, fun k h => .inl h⟩
   simp [Builtin.append_, run_underlying Tryz.underlying23, sizeOf, typeInfo, hi, Builtin.lenOf, Builtin.firstCells, loadCells, loadCellsFrom]
  ·have hr := run_append_nil (P := Tryz.prog) w 23 ty 63 i0 (.int .u32 0) Tryz.underlying23 hi hz0 a m c (news.map (Value.int .u32)) (by rw [hz1]; simp [hl]) hnv (by omega) (by omega) (by rw [hz2]; omega)
   have hge := grownCap_ge w m 0 63
   have hcm : grownCap w m 0 63 ≤ maxLen := grownCap_le_maxLen w m 0 63 (by unfold maxLen; omega)
   rw [zeroCells_eq] at hr
   rw [show (news.map (Value.int .u32)).toArray = U news from rfl, U_append] at hr
   refine ⟨_, _, hr, _, _, by rw [Nat.zero_add], ⟨below_drew_alloc hB _, .inr ⟨_, _, rfl, by have := hB.size; omega, row_drew_alloc w _, hL.append (Limbs.replicate _), by simp [hl]; omega, by omega, by unfold maxLen at hcm; omega, ?_⟩⟩, grown_drew_alloc w _ _, fun k h => .inr (by cases h; exact Nat.le_refl _)⟩
   rw [Nat.zero_add, List.nil_append, ← hl, List.take_left]
 ·by_cases hroom : n + m ≤ cap
  ·have hr' := run_append_room (P := Tryz.prog) w 23 ty 63 i0 Tryz.underlying23 hi b n cap (U zs) hr a m c (news.map (Value.int .u32)) (by rw [hz1]; simp [hl]) hnv hone hroom (by rw [hz1, U_size]; simp [hl]; omega)
   refine ⟨_, _, hr', some ⟨b, 0, none⟩, cap, rfl, ⟨?_, .inr ⟨b, zs.take n ++ news ++ zs.drop (n + m), rfl, hb, ?_, ((hlz.take n).append hL).append (hlz.drop _), by simp [hl]; omega, hroom, hm, ?_⟩⟩, ⟨rfl, rfl, rfl, by simp, fun k _ hk => setRow_other w b k _ (fun e => hk (by simp [blk, e]))⟩, fun k h => .inl h⟩
   ·exact hB.trans ⟨rfl, rfl, rfl, by simp, fun k hk => setRow_other w b k _ (by omega)⟩
   ·have := setRow_heap w b (U zs) ((U zs).toList.take (n * i0.size) ++ news.map (Value.int .u32) ++ (U zs).toList.drop (n * i0.size + (news.map (Value.int .u32)).length)).toArray 63 (0, 0) hr
    rw [Row, this]
    simp [U, hz1, hl, List.map_take, List.map_drop]
   ·have e : (zs.take n ++ news).length = n + m := by simp [hl]; omega
    rw [← e, List.take_left]
  ·have holds : ∀ j v, ((zs.take n).map (Value.int .u32))[j]? = some v → w.cell? ((⟨b, 0, none⟩ : Addr).add j) = some v := fun j v hv => by
    obtain ⟨h1, rfl⟩ := lz_map hv
    have h2 : j < n := by rw [List.length_take] at h1; omega
    rw [lz_take, if_pos h2, Addr.add_lit, Nat.zero_add]
    exact hr.cell (by omega)
   have hr' := run_append_grow (P := Tryz.prog) w 23 ty 63 i0 (.int .u32 0) Tryz.underlying23 hi hz0 ⟨b, 0, none⟩ n cap ((zs.take n).map (Value.int .u32)) (by rw [hz1]; simp; omega) holds a m c (news.map (Value.int .u32)) (by rw [hz1]; simp [hl]) hnv (by omega) (by omega) (growslice_fits (by omega) (by rw [hz2]; omega))
   have hge := grownCap_ge w (n + m) cap 63
   have hcm : grownCap w (n + m) cap 63 ≤ maxLen := grownCap_le_maxLen w (n + m) cap 63 (by unfold maxLen; omega)
   rw [zeroCells_eq] at hr'
   rw [show (news.map (Value.int .u32)).toArray = U news from rfl, show ((zs.take n).map (Value.int .u32)).toArray = U (zs.take n) from rfl, U_append, U_append] at hr'
   refine ⟨_, _, hr', _, _, rfl, ⟨below_drew_alloc hB _, .inr ⟨_, _, rfl, by have := hB.size; omega, row_drew_alloc w _, ((hlz.take n).append hL).append (Limbs.replicate _), by simp [hl]; omega, by omega, by unfold maxLen at hcm; omega, ?_⟩⟩, grown_drew_alloc w _ _, fun k h => .inr (by cases h; exact Nat.le_refl _)⟩
   have e : (zs.take n ++ news).length = n + m := by simp [hl]; omega
   rw [← e, List.take_left]

end Go.Proofs.YtgpaajolcpgeaaaGreatDoor

namespace Go.Proofs.YtgpaajolcpgeaaaGreatDoor
open Go.RowKit

theorem ret_bool {a b : Bool} (h : a = b) : Ending.returned (.bool a) = .returned (.bool b) := by rw [h]

theorem run_append_nils (ty : TypeId) (c : Nat) (w : World) : (Builtin.append_ #[23, 23] ty #[.slice none 0 0, .slice none 0 c]).run Tryz.prog w = .ok (.slice none 0 0) w := by
 obtain ⟨i0, hi, hz0, hz1, hz2⟩ := info_parts info49a
 simp [Builtin.append_, run_underlying Tryz.underlying23, sizeOf, typeInfo, hi, Builtin.lenOf, Builtin.firstCells]

theorem out_none (w : World) : Out w w none 0 0 [] := ⟨Below.refl _ _, .inl ⟨rfl, rfl, rfl, rfl⟩⟩

/-- append of all of a slice that reads as limbs onto nil -/
theorem run_append_all {w : World} {ad : Option Addr} {n cap : Nat} {X : List Int} (h : Rd w ad n cap X) (hb : n ≤ 1099511627776) (ty : TypeId) :
  ∃ v' w', (Builtin.append_ #[23, 23] ty #[.slice none 0 0, .slice ad n cap]).run Tryz.prog w = .ok v' w' ∧ ∃ ad' cap', v' = .slice ad' n cap' ∧ Out w w' ad' n cap' X := by
 obtain ⟨h1, h2, h3, h4, h5⟩ := h
 have fin : ∀ a, ad = some a → (∀ j, j < n → w.cell? (a.add j) = some (.int .u32 (lz X j))) → ∃ v' w', (Builtin.append_ #[23, 23] ty #[.slice none 0 0, .slice ad n cap]).run Tryz.prog w = .ok v' w' ∧ ∃ ad' cap', v' = .slice ad' n cap' ∧ Out w w' ad' n cap' X := by
  rintro a rfl hc
  obtain ⟨v', w', hr, ad', cap', hv, ho, _⟩ := run_append_out (out_none w) ty a n cap X h1 h4 hc (by omega)
  rw [Nat.zero_add] at hv ho
  exact ⟨v', w', hr, ad', cap', hv, by simpa using ho⟩
 rcases h5 with ⟨rfl, rfl, rfl⟩ | ⟨a, rfl, rfl | ⟨b, off, rfl, _, hc⟩⟩
 ·obtain rfl : X = [] := List.eq_nil_of_length_eq_zero h1
  exact ⟨_, _, run_append_nils ty 0 w, none, 0, rfl, out_none w⟩
 ·exact fin a rfl (fun j hj => absurd hj (by omega))
 ·exact fin _ rfl (fun j hj => by rw [Addr.add_lit]; exact hc j hj)

set_option maxRecDepth 100000 in
set_option maxHeartbeats 800000 in
theorem fresh_any {a1 : Option Addr} {l1 c1 : Nat} {xs : List Int} {w : World} (h1 : Rd w a1 l1 c1 xs) (hl : l1 ≤ 1099511627776) :
  Calls Tryz.prog 194 #[.slice a1 l1 c1] w fun e w' => ∃ ad cap, e = .returned (.slice ad (tl xs l1) cap) ∧ Out w w' ad (tl xs l1) cap (trim xs) := by
 have t1 := h1.trim
 have hb := tl_le xs l1
 go_enter Tryz.func194, Tryz.ntmps194
 go_wp2_with fail
 refine (bare_any h1).mono ?_
 rintro e w' ⟨rfl, rfl⟩
 go_wp2_with (at_builtin; refine wpList_append_run rfl _ _ 23 rfl _ _ rfl rfl _ (run_append_all t1 (by omega) _) ?_; rintro v' w' ⟨ad', cap', rfl, ho⟩)
 go_ret
 exact ⟨_, _, rfl, ho⟩
end Go.Proofs.YtgpaajolcpgeaaaGreatDoor

namespace Go.Proofs.YtgpaajolcpgeaaaGreatDoor
open Go.RowKit

theorem or64 (x y : Int) (h0 : 0 ≤ x) (h1 : x < 4294967296) (h2 : 0 ≤ y) (h3 : y < 4294967296) : bits .or .u64 (x * 4294967296) y = x * 4294967296 + y := by
 obtain ⟨a, rfl⟩ := Int.eq_ofNat_of_zero_le h0
 obtain ⟨b, rfl⟩ := Int.eq_ofNat_of_zero_le h2
 have e1 : ((a : Int) * 4294967296) = ((a * 4294967296 : Nat) : Int) := by omega
 rw [e1, u64_or_nat _ _ (by omega) (by omega)]
 have e2 : a * 4294967296 ||| b = a * 4294967296 + b := by
  have := Nat.two_pow_add_eq_or_of_lt (i := 32) (b := b) (by omega) a
  rw [Nat.mul_comm a]
  exact this.symm
 rw [e2]
 omega

set_option maxRecDepth 100000 in
set_option maxHeartbeats 800000 in
theorem divl_nil (d : Int) (w : World) :
  Calls Tryz.prog 195 #[.slice none 0 0, .int .u32 d] w fun e w' => e = .returned (.int .u32 0) ∧ w = w' := by
 go_enter Tryz.func195, Tryz.ntmps195
 go_wp2
 refine wp_loop_rounds 1 ?_
 rw [rounds_succ]
 go_wp2
 go_ret
 exact ⟨rfl, rfl⟩

set_option maxRecDepth 100000 in
set_option maxHeartbeats 800000 in
theorem divl_row {w : World} {b : Nat} {zs : List Int} {len cap : Nat} {d : Int} (hr : Row w b zs) (hL : Limbs zs) (hlen : len ≤ zs.length) (hbig : len ≤ 1099511627776) (hd0 : 0 < d) (hd1 : d < 4294967296) :
  Calls Tryz.prog 195 #[.slice (some ⟨b, 0, none⟩) len cap, .int .u32 d] w fun e w' => ∃ zk, e = .returned (.int .u32 (vl zs len % d)) ∧ Row w' b zk ∧ Limbs zk ∧ zk.length = zs.length ∧ (∀ j, len ≤ j → lz zk j = lz zs j) ∧ vl zk len = vl zs len / d ∧ Only b w w' := by
 go_enter Tryz.func195, Tryz.ntmps195
 go_wp2
 go_loopw [5, 6] (fun l i wr => ∃ (k : Nat) (r : Int) (zk : List Int), k ≤ len ∧ i = .int .i64 ((k : Int) - 1) ∧ l = .int .u64 r ∧ 0 ≤ r ∧ r < d ∧ Row wr b zk ∧ Limbs zk ∧ zk.length = zs.length ∧ (∀ j, j < k ∨ len ≤ j → lz zk j = lz zs j) ∧ vl zs len - vl zs k = d * (vl zk len - vl zk k) + r * pw k ∧ Only b w wr) (fun _ i _ => (intOf i + 1).toNat)
 case atStart => exact ⟨len, 0, zs, Nat.le_refl _, rfl, rfl, by decide, hd0, hr, hL, rfl, fun _ _ => rfl, by simp, Only.refl _ _⟩
 case round =>
  obtain ⟨k, r, zk, hk, rfl, rfl, hr0, hr1, hrow, hzL, hzl, hsame, hv, honly⟩ := hrel
  have HV := hide hv
  have HS := hide hsame
  clear hv hsame
  cases k with
  | zero =>
   have hfin : Hid (vl zs len % d = r ∧ vl zk len = vl zs len / d) := by
    have h := unhide HV
    simp only [vl, pw, Int.sub_zero, Int.mul_one] at h
    rw [h]
    refine ⟨?_, ?_⟩
    ·rw [Int.add_comm, Int.add_mul_emod_self_left, Int.emod_eq_of_lt hr0 hr1]
    ·rw [Int.add_comm, Int.add_mul_ediv_left _ _ (by omega), Int.ediv_eq_zero_of_lt hr0 hr1, Int.zero_add]
   clear HV
   go_wp2
   go_ret
   exact ⟨zk, ret_int (unhide hfin).1.symm, hrow, hzL, hzl, fun j hj => (unhide HS) j (.inr hj), (unhide hfin).2, honly⟩
  | succ m =>
   have hcell := hrow.cell (i := m) (by omega)
   have hfr := hrow.frozen m
   have hB := lz_bd hzL m
   have ho := or64 r (lz zk m) hr0 (by omega) hB.1 hB.2
   have HM := hide ((unhide HS) m (.inl (by omega)))
   have hq : Hid (r * 4294967296 + lz zs m = d * ((r * 4294967296 + lz zk m) / d) + (r * 4294967296 + lz zk m) % d) := by
    show _ = _
    rw [← unhide HM]
    exact (Int.mul_ediv_add_emod _ _).symm
   have HD := hide (div_step (zs := zs) (zk := zk) (m := m) (len := len) (d := d) (r := r) (by omega) (by omega) (unhide HM) (unhide hq) (unhide HV))
   have q0 : 0 ≤ (r * 4294967296 + lz zk m) / d := Int.ediv_nonneg (by omega) (by omega)
   have q1 : (r * 4294967296 + lz zk m) / d < 4294967296 := by
    refine Int.ediv_lt_of_lt_mul hd0 ?_
    have : (r + 1) * 4294967296 ≤ d * 4294967296 := Int.mul_le_mul_of_nonneg_right (by omega) (by decide)
    rw [Int.mul_comm 4294967296 d]
    omega
   have r0 : 0 ≤ (r * 4294967296 + lz zk m) % d := Int.emod_nonneg _ (by omega)
   have r1 : (r * 4294967296 + lz zk m) % d < d := Int.emod_lt_of_pos _ hd0
   clear hq HV
   generalize hx : lz zk m = x at *
   clear hx
   go_wp2
   exact ⟨⟨m, _, _, by omega, rfl, rfl, r0, r1, hrow.set m _, hzL.set m q0 q1, by rw [List.length_set]; exact hzl, fun j hj => by rw [lz_set _ _ _ _ (by omega), if_neg (by omega)]; exact (unhide HS) j (by omega), unhide HD, honly.trans (Only.set b m wr _)⟩, by simp [intOf]⟩
end Go.Proofs.YtgpaajolcpgeaaaGreatDoor

namespace Go.Proofs.YtgpaajolcpgeaaaGreatDoor
open Go.RowKit

theorem tl_congr {xs ys : List Int} {n : Nat} (h : ∀ i, i < n → lz xs i = lz ys i) : tl xs n = tl ys n := by
 induction n with
 | zero => rfl
 | succ n ih => unfold tl; rw [h n (by omega), ih (fun i hi => h i (by omega))]

theorem trim_canon {zs : List Int} (h : Canon zs) : trim zs = zs := canon_inj (canon_trim h.1) h (val_trim zs)
theorem tl_canon {zs : List Int} {n : Nat} (h : Canon zs) (hn : zs.length = n) : tl zs n = n := by
 subst hn
 rw [← trim_length, trim_canon h]

theorem Row.below {w w' : World} {b : Nat} {xs : List Int} (h : Row w b xs) (hb : Below w.heap.size w w') : Row w' b xs := by
 unfold Row; rw [hb.block b h.lt]; exact h

/-- what came out stays behind later work in newer memory -/
theorem Out.later {w0 w w' : World} {ad : Option Addr} {len cap : Nat} {zs : List Int} (h : Out w0 w ad len cap zs) (hb : Below w.heap.size w w') : Out w0 w' ad len cap zs := by
 obtain ⟨h1, h2⟩ := h
 refine ⟨h1.trans (hb.mono h1.size), ?_⟩
 rcases h2 with h2 | ⟨b, xs, h3, h4, h5, h6⟩
 ·exact .inl h2
 ·exact .inr ⟨b, xs, h3, h4, h5.below hb, h6⟩

/-- an answer made later is an answer of the whole -/
theorem Out.outer {w0 w w' : World} {ad : Option Addr} {len cap : Nat} {zs : List Int} (h : Out w w' ad len cap zs) (hb : Below w0.heap.size w0 w) : Out w0 w' ad len cap zs := by
 obtain ⟨h1, h2⟩ := h
 refine ⟨hb.trans (h1.mono hb.size), ?_⟩
 rcases h2 with h2 | ⟨b, xs, h3, h4, h6⟩
 ·exact .inl h2
 ·exact .inr ⟨b, xs, h3, Nat.le_trans hb.size h4, h6⟩

end Go.Proofs.YtgpaajolcpgeaaaGreatDoor

namespace Go.Proofs.YtgpaajolcpgeaaaGreatDoor
open Go.RowKit

end Go.Proofs.YtgpaajolcpgeaaaGreatDoor

namespace Go.Proofs.YtgpaajolcpgeaaaGreatDoor
open Go.RowKit

end Go.Proofs.YtgpaajolcpgeaaaGreatDoor

namespace Go.Proofs.YtgpaajolcpgeaaaGreatDoor
open Go.RowKit

end Go.Proofs.YtgpaajolcpgeaaaGreatDoor
