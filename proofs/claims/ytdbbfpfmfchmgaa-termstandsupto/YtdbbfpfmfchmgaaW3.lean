/-
  Walks: Add.
-/
import Derived.Test.YtdbbfpfmfchmgaaW2
namespace Go.Proofs.Ytdbbfpfmfchmgaa
open Go.RowKit

theorem info49 : (Try.prog.info? 65).map (fun i => (i.zero, i.size, i.bytes)) = some (some (.int .u32 0), 1, 4) := by kernel_rfl

theorem made_zero (n : Nat) : madeCells #[.int .u32 0] n = U (List.replicate n 0) := by
  apply Array.ext'
  rw [toList_madeCells_one]
  simp [U]

theorem run_mk (n : Nat) (hn : n ≤ 70368744177664) (u : World) : (Instr.makeSlice 23 (.int .i64 (n : Int)) (.int .i64 (n : Int))).run Try.prog u =
      .ok (.slice (some ⟨u.heap.size, 0, none⟩) n n) (u.alloc (.cells (U (List.replicate n 0)) 65)) := by
  obtain ⟨i0, hi, hz0, hz1, hz2⟩ := info_parts info49
  have h := run_make (P := Try.prog) u 23 65 i0 (.int .u32 0) Try.underlying23 hi hz0 .i64 .i64 (n : Int) (n : Int) (by omega) (Int.le_refl _) (by rw [hz2]; omega) (by omega)
  rw [Int.toNat_natCast] at h
  rw [← made_zero]
  simpa [hz1, Value.cells] using h

theorem run_mk' (n : Nat) (hn : n + 1 ≤ 70368744177664) (u : World) : (Instr.makeSlice 23 (.int .i64 ((n : Int) + 1)) (.int .i64 ((n : Int) + 1))).run Try.prog u =
      .ok (.slice (some ⟨u.heap.size, 0, none⟩) (n + 1) (n + 1)) (u.alloc (.cells (U (List.replicate (n + 1) 0)) 65)) := run_mk (n + 1) hn u

theorem row_alloc (w : World) (xs : List Int) : Row (w.alloc (.cells (U xs) 65)) w.heap.size xs := heap_alloc_new w _

theorem mask64 (x : Int) (h0 : 0 ≤ x) (h1 : x < 18446744073709551616) : bits .and .u64 x 4294967295 = x % 4294967296 := by
  rw [u64_and x 4294967295 h0 h1 (by decide) (by decide)]
  have e : (4294967295 : Int).toNat = 2 ^ 32 - 1 := by decide
  rw [e, Nat.and_two_pow_sub_one_eq_mod]
  omega

theorem below_set {w wr : World} (h : Below w.heap.size w wr) (k : Nat) (v : Value) : Below w.heap.size w (wr.setCell ⟨w.heap.size, k, none⟩ v) := h.setCell (Nat.le_refl _) v

theorem size_set (w : World) (a : Addr) (v : Value) : (w.setCell a v).heap.size = w.heap.size := by simp [World.setCell]

set_option maxRecDepth 100000 in
set_option maxHeartbeats 1600000 in
theorem add_any {a1 a2 : Option Addr} {l1 c1 l2 c2 : Nat} {xs ys : List Int} {w : World} (h1 : Rd w a1 l1 c1 xs) (h2 : Rd w a2 l2 c2 ys) (hl1 : l1 ≤ 1099511627776) (hl2 : l2 ≤ 1099511627776) :
    Calls Try.prog 71 #[.slice a1 l1 c1, .slice a2 l2 c2] w fun e w' => ∃ ad len cap zs, e = .returned (.slice ad len cap) ∧ Out w w' ad len cap zs ∧ Canon zs ∧ val zs = val xs + val ys ∧ len ≤ max l1 l2 + 1 := by
  have t1 := h1.trim
  have t2 := h2.trim
  have e1 := val_trim xs
  have e2 := val_trim ys
  have b1 : tl xs l1 ≤ l1 := tl_le _ _
  have b2 : tl ys l2 ≤ l2 := tl_le _ _
  generalize hX : trim xs = X at *
  generalize hY : trim ys = Y at *
  clear hX hY
  generalize hn1 : tl xs l1 = n1 at *
  generalize hn2 : tl ys l2 = n2 at *
  have HN1 : Hid (tl xs l1 = n1) := hn1
  have HN2 : Hid (tl ys l2 = n2) := hn2
  have E1 : Hid (val X = val xs) := e1
  have E2 : Hid (val Y = val ys) := e2
  have L1 : Hid (X.length = n1) := t1.1
  have L2 : Hid (Y.length = n2) := t2.1
  clear hn1 hn2 e1 e2
  go_enter Try.func71, Try.ntmps71
  go_wp2_with fail
  refine (bare_any h1).mono ?_
  rintro e w' ⟨rfl, rfl⟩
  rw [HN1.out]
  go_wp2_with fail
  refine (bare_any h2).mono ?_
  rintro e w' ⟨rfl, rfl⟩
  rw [HN2.out]
  have hsplit : (n1 < n2) ∨ ¬ (n1 < n2) := Decidable.em _
  rcases hsplit with hlt | hlt
  · obtain ⟨N, rfl⟩ : ∃ N, N = n2 := ⟨_, rfl⟩
    have hmk := run_mk' N (by omega)
    go_wp2_with fail
    go_loopw [7, 22] (fun c i wr => ∃ (k : Nat) (cr : Int) (zs : List Int), k ≤ N ∧ i = .int .i64 k ∧ c = .int .u64 cr ∧ 0 ≤ cr ∧ cr ≤ 1 ∧ zs.length = N + 1 ∧ Limbs zs ∧ Row wr w.heap.size zs ∧ Below w.heap.size w wr ∧ wr.heap.size = w.heap.size + 1 ∧ vl zs k + cr * pw k = vl X k + vl Y k) (fun _ i _ => N - (intOf i).toNat)
    case atStart => exact ⟨0, 0, _, Nat.zero_le _, rfl, rfl, by decide, by decide, List.length_replicate, Limbs.replicate _, row_alloc w _, (Below.refl _ _).alloc (Nat.le_refl _) _, by simp, by simp [vl]⟩
    case round =>
      obtain ⟨k, cr, zs, hk, rfl, rfl, hc0, hc1, hzl, hzL, hrow, hbel, hsz, hv⟩ := hrel
      have HV := hide hv
      have hcell := hrow.cell (i := k) (by omega)
      have hfr := hrow.frozen k
      clear hv hmk
      by_cases hkN : k < N
      · have q1 := t1.below hbel
        have q2 := t2.below hbel
        go_wp2_with fail
        refine (limb_any q1 (k : Int) (by omega) (by omega)).mono ?_
        rintro e w' ⟨rfl, rfl⟩
        rw [Int.toNat_natCast]
        go_wp2_with fail
        refine (limb_any q2 (k : Int) (by omega) (by omega)).mono ?_
        rintro e w' ⟨rfl, rfl⟩
        rw [Int.toNat_natCast]
        have B1 := lz_bd q1.2.2.2.1 k
        have B2 := lz_bd q2.2.2.2.1 k
        have HS : Hid (vl (zs.set k ((cr + (lz X k + lz Y k)) % 4294967296)) (k + 1) + ((cr + (lz X k + lz Y k)) / 4294967296) * pw (k + 1) = vl X (k + 1) + vl Y (k + 1)) := by
          have := carry_step (zs := zs) (k := k) (cr := cr) (s := lz X k + lz Y k) (T := _) (by omega) (unhide HV)
          rw [Int.add_mul] at this
          show _ = _; rw [this, vl_succ, vl_succ]; omega
        clear HV q1 q2
        generalize lz X k = x at *
        generalize lz Y k = y at *
        go_wp2_with fail
        rw [mask64 _ (by omega) (by omega), Int.emod_emod_of_dvd _ (Int.dvd_refl _)]
        exact ⟨⟨k + 1, _, _, by omega, by go_num, rfl, by omega, by omega, by rw [List.length_set]; exact hzl, hzL.set k (by omega) (by omega), hrow.set k _, below_set hbel k _, by rw [size_set]; exact hsz, unhide HS⟩, by simp [intOf]; omega⟩
      · obtain rfl : k = N := by omega
        go_wp2_with fail
        have hset := hrow.set k cr
        have hlim := hzL.set k (x := cr) (by omega) (by omega)
        have hbel' := below_set hbel k (.int .u32 cr)
        have hval : Hid (val (zs.set k cr) = val xs + val ys) := by
          show _ = _
          have e : val (zs.set k cr) = vl (zs.set k cr) (k + 1) := by unfold val; rw [List.length_set, hzl]
          rw [e, vl_succ, vl_set_past _ _ _ _ (Nat.le_refl _) (by omega), lz_set _ _ _ _ (by omega), if_pos rfl, unhide HV, vl_ge (by have := L1.out; omega), vl_ge (by have := L2.out; omega), E1.out, E2.out]
        have hlen' : (zs.set k cr).length = k + 1 := by rw [List.length_set]; exact hzl
        clear HV hcell hfr hrow hbel hsz
        refine (bare_own hset hlim hlen' (by omega)).mono ?_
        rintro e w' ⟨rfl, rfl⟩
        go_wp2_with fail
        go_ret
        obtain ⟨o1, o2, o3, o4⟩ := own_trim hbel' hset hlim hlen' (by omega)
        exact ⟨_, _, _, _, rfl, o1, o2, o3.trans (unhide hval), by omega⟩
  · obtain ⟨N, rfl⟩ : ∃ N, N = n1 := ⟨_, rfl⟩
    have hmk := run_mk' N (by omega)
    go_wp2_with fail
    go_loopw [7, 22] (fun c i wr => ∃ (k : Nat) (cr : Int) (zs : List Int), k ≤ N ∧ i = .int .i64 k ∧ c = .int .u64 cr ∧ 0 ≤ cr ∧ cr ≤ 1 ∧ zs.length = N + 1 ∧ Limbs zs ∧ Row wr w.heap.size zs ∧ Below w.heap.size w wr ∧ wr.heap.size = w.heap.size + 1 ∧ vl zs k + cr * pw k = vl X k + vl Y k) (fun _ i _ => N - (intOf i).toNat)
    case atStart => exact ⟨0, 0, _, Nat.zero_le _, rfl, rfl, by decide, by decide, List.length_replicate, Limbs.replicate _, row_alloc w _, (Below.refl _ _).alloc (Nat.le_refl _) _, by simp, by simp [vl]⟩
    case round =>
      obtain ⟨k, cr, zs, hk, rfl, rfl, hc0, hc1, hzl, hzL, hrow, hbel, hsz, hv⟩ := hrel
      have HV := hide hv
      have hcell := hrow.cell (i := k) (by omega)
      have hfr := hrow.frozen k
      clear hv hmk
      by_cases hkN : k < N
      · have q1 := t1.below hbel
        have q2 := t2.below hbel
        go_wp2_with fail
        refine (limb_any q1 (k : Int) (by omega) (by omega)).mono ?_
        rintro e w' ⟨rfl, rfl⟩
        rw [Int.toNat_natCast]
        go_wp2_with fail
        refine (limb_any q2 (k : Int) (by omega) (by omega)).mono ?_
        rintro e w' ⟨rfl, rfl⟩
        rw [Int.toNat_natCast]
        have B1 := lz_bd q1.2.2.2.1 k
        have B2 := lz_bd q2.2.2.2.1 k
        have HS : Hid (vl (zs.set k ((cr + (lz X k + lz Y k)) % 4294967296)) (k + 1) + ((cr + (lz X k + lz Y k)) / 4294967296) * pw (k + 1) = vl X (k + 1) + vl Y (k + 1)) := by
          have := carry_step (zs := zs) (k := k) (cr := cr) (s := lz X k + lz Y k) (T := _) (by omega) (unhide HV)
          rw [Int.add_mul] at this
          show _ = _; rw [this, vl_succ, vl_succ]; omega
        clear HV q1 q2
        generalize lz X k = x at *
        generalize lz Y k = y at *
        go_wp2_with fail
        rw [mask64 _ (by omega) (by omega), Int.emod_emod_of_dvd _ (Int.dvd_refl _)]
        exact ⟨⟨k + 1, _, _, by omega, by go_num, rfl, by omega, by omega, by rw [List.length_set]; exact hzl, hzL.set k (by omega) (by omega), hrow.set k _, below_set hbel k _, by rw [size_set]; exact hsz, unhide HS⟩, by simp [intOf]; omega⟩
      · obtain rfl : k = N := by omega
        go_wp2_with fail
        have hset := hrow.set k cr
        have hlim := hzL.set k (x := cr) (by omega) (by omega)
        have hbel' := below_set hbel k (.int .u32 cr)
        have hval : Hid (val (zs.set k cr) = val xs + val ys) := by
          show _ = _
          have e : val (zs.set k cr) = vl (zs.set k cr) (k + 1) := by unfold val; rw [List.length_set, hzl]
          rw [e, vl_succ, vl_set_past _ _ _ _ (Nat.le_refl _) (by omega), lz_set _ _ _ _ (by omega), if_pos rfl, unhide HV, vl_ge (by have := L1.out; omega), vl_ge (by have := L2.out; omega), E1.out, E2.out]
        have hlen' : (zs.set k cr).length = k + 1 := by rw [List.length_set]; exact hzl
        clear HV hcell hfr hrow hbel hsz
        refine (bare_own hset hlim hlen' (by omega)).mono ?_
        rintro e w' ⟨rfl, rfl⟩
        go_wp2_with fail
        go_ret
        obtain ⟨o1, o2, o3, o4⟩ := own_trim hbel' hset hlim hlen' (by omega)
        exact ⟨_, _, _, _, rfl, o1, o2, o3.trans (unhide hval), by omega⟩
end Go.Proofs.Ytdbbfpfmfchmgaa
