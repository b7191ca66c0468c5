/-
  Walks: same, Of, fresh.
-/
import Derived.Test.YtfmljpibkopmiaaDoorW5
import Derived.Test.YtfmljpibkopmiaaDoorApp
namespace Go.Proofs.YtfmljpibkopmiaaDoor
open Go.RowKit

theorem ret_bool {a b : Bool} (h : a = b) : Ending.returned (.bool a) = .returned (.bool b) := by rw [h]

set_option maxRecDepth 100000 in
set_option maxHeartbeats 800000 in
theorem same_any {a1 a2 : Option Addr} {l1 c1 l2 c2 : Nat} {xs ys : List Int} {w : World} (h1 : Rd w a1 l1 c1 xs) (h2 : Rd w a2 l2 c2 ys) :
    Calls Tryd.prog 13 #[.slice a1 l1 c1, .slice a2 l2 c2] w fun e w' => e = .returned (.bool (decide (xs = ys))) ∧ ∃ n, w' = w.drewN n := by
  have L1 : Hid (xs.length = l1) := h1.1
  have L2 : Hid (ys.length = l2) := h2.1
  have hc1 : l1 ≤ c1 := h1.2.1
  have hc2 : c1 ≤ 9223372036854775807 := h1.2.2.1
  by_cases heq : l1 = l2
  · subst heq
    by_cases h0 : l1 = 0
    · subst h0
      have ex : xs = [] := List.eq_nil_of_length_eq_zero L1.out
      have ey : ys = [] := List.eq_nil_of_length_eq_zero L2.out
      subst ex ey
      clear h1 h2
      go_enter Tryd.func13, Tryd.ntmps13
      go_wp2
      refine wp_loop_rounds 1 ?_
      rw [rounds_succ]
      go_wp2
      go_ret
      exact ⟨ret_bool (by simp), 0, rfl⟩
    · obtain ⟨b1, o1, rfl, g1⟩ := h1.some (by omega)
      obtain ⟨b2, o2, rfl, g2⟩ := h2.some (by omega)
      clear h1 h2
      go_enter Tryd.func13, Tryd.ntmps13
      go_wp2
      go_loopw [5] (fun i wr => ∃ k q : Nat, k ≤ l1 ∧ i = .int .i64 k ∧ (∀ j, j < k → lz xs j = lz ys j) ∧ wr = w.drewN q) (fun i _ => l1 - (intOf i).toNat)
      case atStart => exact ⟨0, 0, Nat.zero_le _, rfl, fun j hj => absurd hj (by omega), rfl⟩
      case round =>
        obtain ⟨k, q, hk, rfl, hs, rfl⟩ := hrel
        have HS := hide hs
        clear hs
        by_cases hkl : k < l1
        · have gm1 := g1 k hkl
          have gm2 := g2 k hkl
          have hm : (k : Int) < l1 := by omega
          by_cases hl : lz xs k = lz ys k
          · have f1 : (lz xs k != lz ys k) = false := by simp [hl]
            have HL := hide hl
            clear hl
            go_wp2
            go_quiet (fail)
            go_wp2
            go_roundw
            case rel => exact ⟨k + 1, q + nq, by omega, by go_num, fun j hj => (by by_cases e : j = k; { rw [e]; exact unhide HL }; { exact (unhide HS) j (by omega) }), by simp⟩
            case measure => simp [intOf]; omega
          · have f1 : (lz xs k != lz ys k) = true := by simp [hl]
            have HL := hide hl
            clear hl
            go_wp2
            go_quiet (fail)
            go_wp2
            go_ret
            exact ⟨ret_bool (by rw [eq_comm, decide_eq_false_iff_not]; intro e; exact (unhide HL) (by rw [e])), q + nq, by simp⟩
        · obtain rfl : k = l1 := by omega
          go_wp2
          go_ret
          exact ⟨ret_bool (by rw [eq_comm, decide_eq_true_iff]; exact list_ext_lz (L1.out.trans L2.out.symm) (fun i hi => (unhide HS) i (by have := L1.out; omega))), q, rfl⟩
  · have f1 : ((l1 : Int) != (l2 : Int)) = true := by simp; omega
    have HE := hide heq
    clear heq
    go_enter Tryd.func13, Tryd.ntmps13
    go_wp2
    go_ret
    exact ⟨ret_bool (by rw [eq_comm, decide_eq_false_iff_not]; intro e; exact (unhide HE) (by rw [← L1.out, ← L2.out, e])), 0, rfl⟩

set_option maxRecDepth 100000 in
set_option maxHeartbeats 800000 in
theorem of_any (n : Int) (h0 : 0 ≤ n) (h1 : n < 18446744073709551616) (w : World) :
    Calls Tryd.prog 25 #[.int .u64 n] w fun e w' => ∃ ad len cap zs, e = .returned (.slice ad len cap) ∧ Out w w' ad len cap zs ∧ Canon zs ∧ val zs = n ∧ len ≤ 2 := by
  have hm := mask64 n h0 h1
  go_enter Tryd.func25, Tryd.ntmps25
  go_wp2_with fail
  have hrow : Row (w.alloc (.cells #[.int .u32 (n % 4294967296), .int .u32 (n / 4294967296)] 32)) w.heap.size [n % 4294967296, n / 4294967296] := row_alloc w [n % 4294967296, n / 4294967296]
  have hlim : Limbs [n % 4294967296, n / 4294967296] := by
    intro z hz
    simp only [List.mem_cons, List.not_mem_nil, or_false] at hz
    rcases hz with rfl | rfl <;> omega
  have hbel : Below w.heap.size w (w.alloc (.cells #[.int .u32 (n % 4294967296), .int .u32 (n / 4294967296)] 32)) := (Below.refl _ _).alloc (Nat.le_refl _) _
  have hval : Hid (val [n % 4294967296, n / 4294967296] = n) := by
    show _ = _
    simp only [val, vl, lz, pw, List.length_cons, List.length_nil]
    simp
    omega
  refine (bare_own (n := 2) hrow hlim rfl (by decide)).mono ?_
  rintro e w' ⟨rfl, rfl⟩
  obtain ⟨o1, o2, o3, o4⟩ := own_trim (n := 2) hbel hrow hlim rfl (by decide)
  clear hm
  go_wp2_with fail
  go_ret
  exact ⟨_, _, _, _, rfl, o1, o2, o3.trans (unhide hval), o4⟩

theorem run_append_nils (ty : TypeId) (c : Nat) (w : World) : (Builtin.append_ #[22, 22] ty #[.slice none 0 0, .slice none 0 c]).run Tryd.prog w = .ok (.slice none 0 0) w := by
  obtain ⟨i0, hi, hz0, hz1, hz2⟩ := info_parts info49a
  simp [Builtin.append_, run_underlying Tryd.underlying22, sizeOf, typeInfo, hi, Builtin.lenOf, Builtin.firstCells]

theorem out_none (w : World) : Out w w none 0 0 [] := ⟨Below.refl _ _, .inl ⟨rfl, rfl, rfl, rfl⟩⟩

/-- append of all of a slice that reads as limbs onto nil -/
theorem run_append_all {w : World} {ad : Option Addr} {n cap : Nat} {X : List Int} (h : Rd w ad n cap X) (hb : n ≤ 1099511627776) (ty : TypeId) :
    ∃ v' w', (Builtin.append_ #[22, 22] ty #[.slice none 0 0, .slice ad n cap]).run Tryd.prog w = .ok v' w' ∧ ∃ ad' cap', v' = .slice ad' n cap' ∧ Out w w' ad' n cap' X := by
  obtain ⟨h1, h2, h3, h4, h5⟩ := h
  have fin : ∀ a, ad = some a → (∀ j, j < n → w.cell? (a.add j) = some (.int .u32 (lz X j))) → ∃ v' w', (Builtin.append_ #[22, 22] ty #[.slice none 0 0, .slice ad n cap]).run Tryd.prog w = .ok v' w' ∧ ∃ ad' cap', v' = .slice ad' n cap' ∧ Out w w' ad' n cap' X := by
    rintro a rfl hc
    obtain ⟨v', w', hr, ad', cap', hv, ho, _⟩ := run_append_out (out_none w) ty a n cap X h1 h4 hc (by omega)
    rw [Nat.zero_add] at hv ho
    exact ⟨v', w', hr, ad', cap', hv, by simpa using ho⟩
  rcases h5 with ⟨rfl, rfl, rfl⟩ | ⟨a, rfl, rfl | ⟨b, off, rfl, _, hc⟩⟩
  · obtain rfl : X = [] := List.eq_nil_of_length_eq_zero h1
    exact ⟨_, _, run_append_nils ty 0 w, none, 0, rfl, out_none w⟩
  · exact fin a rfl (fun j hj => absurd hj (by omega))
  · exact fin _ rfl (fun j hj => by rw [Addr.add_lit]; exact hc j hj)

set_option maxRecDepth 100000 in
set_option maxHeartbeats 800000 in
theorem fresh_any {a1 : Option Addr} {l1 c1 : Nat} {xs : List Int} {w : World} (h1 : Rd w a1 l1 c1 xs) (hl : l1 ≤ 1099511627776) :
    Calls Tryd.prog 17 #[.slice a1 l1 c1] w fun e w' => ∃ ad cap, e = .returned (.slice ad (tl xs l1) cap) ∧ Out w w' ad (tl xs l1) cap (trim xs) := by
  have t1 := h1.trim
  have hb := tl_le xs l1
  go_enter Tryd.func17, Tryd.ntmps17
  go_wp2_with fail
  refine (bare_any h1).mono ?_
  rintro e w' ⟨rfl, rfl⟩
  go_wp2_with (at_builtin; refine wpList_append_run rfl _ _ 22 rfl _ _ rfl rfl _ (run_append_all t1 (by omega) _) ?_; rintro v' w' ⟨ad', cap', rfl, ho⟩)
  go_ret
  exact ⟨_, _, rfl, ho⟩
end Go.Proofs.YtfmljpibkopmiaaDoor
