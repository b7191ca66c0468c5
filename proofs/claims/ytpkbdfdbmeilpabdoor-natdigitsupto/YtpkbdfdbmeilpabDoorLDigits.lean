/-
  The walk of the law NatDigits.
-/
import Derived.Test.YtpkbdfdbmeilpabDoorK3
import Derived.Test.YtpkbdfdbmeilpabDoorD1
namespace Go.Proofs.YtpkbdfdbmeilpabDoor
open Go.RowKit

set_option maxRecDepth 100000 in
set_option maxHeartbeats 3200000 in
theorem natDigits_zero {aa : Option Addr} {la ca : Nat} {a : Int} {w : World} (ha : Nm w aa la ca a) (hla : la ≤ 1048576) (htab : Tab w) (hz : a = 0) :
    Calls Tryd.prog 6 #[.slice aa la ca] w fun e w' => e = .returned (.bool true) ∧ Below w.heap.size w w' := by
  subst hz
  go_enter Tryd.func6, Tryd.ntmps6
  go_wp2_with fail
  refine (bits_0 ha (by omega) rfl).mono ?_
  rintro e w1 ⟨rfl, b1⟩
  replace ha := ha.below b1
  replace htab := htab.below b1
  go_wp2_with fail
  refine (add_n ha ha (by omega) (by omega)).mono ?_
  rintro e w2 ⟨aS, lS, cS, rfl, S, b2, kS⟩
  replace ha := ha.below b2
  replace htab := htab.below b2
  replace b2 := b1.trans (b2.mono b1.size)
  clear b1
  go_wp2_with fail
  refine (bits_0 S.nm (by omega) rfl).mono ?_
  rintro e w3 ⟨rfl, b3⟩
  replace ha := ha.below b3
  replace htab := htab.below b3
  replace b3 := b2.trans (b3.mono b2.size)
  clear b2 S
  have hnil : Nm w3 none 0 0 0 := ⟨[], ⟨rfl, Nat.le_refl _, by decide, fun _ h => (by cases h), .inl ⟨rfl, rfl, rfl⟩⟩, rfl⟩
  go_wp2_with fail
  refine (cmp_0 ha hnil rfl).mono ?_
  rintro e w4 ⟨rfl, b4⟩
  replace htab := htab.below b4
  replace b4 := b3.trans (b4.mono b3.size)
  clear b3 hnil
  go_wp2_with fail
  refine (known_any w4 htab).mono ?_
  rintro e w5 ⟨rfl, b5⟩
  replace b5 := b4.trans (b5.mono b4.size)
  clear b4
  go_wp2_with fail
  go_ret
  exact ⟨rfl, b5⟩

set_option maxRecDepth 100000 in
set_option maxHeartbeats 3200000 in
theorem natDigits_pos {aa : Option Addr} {la ca : Nat} {a : Int} {w : World} (ha : Nm w aa la ca a) (hla : la ≤ 1048576) (htab : Tab w) (hz : 0 < a) :
    Calls Tryd.prog 6 #[.slice aa la ca] w fun e w' => e = .returned (.bool true) ∧ Below w.heap.size w w' := by
  go_enter Tryd.func6, Tryd.ntmps6
  go_wp2_with fail
  refine (bits_v ha (by omega) hz).mono ?_
  rintro e w1 ⟨k, rfl, k0, k1, k2, k3, b1⟩
  replace ha := ha.below b1
  replace htab := htab.below b1
  have K1 := hide k1
  have K2 := hide k2
  clear k1 k2
  go_wp2_with fail
  refine (add_n ha ha (by omega) (by omega)).mono ?_
  rintro e w2 ⟨aS, lS, cS, rfl, S, b2, kS⟩
  replace ha := ha.below b2
  replace htab := htab.below b2
  replace b2 := b1.trans (b2.mono b1.size)
  clear b1
  go_wp2_with fail
  refine (bits_v S.nm (by omega) (by omega)).mono ?_
  rintro e w3 ⟨j, rfl, j0, j1, j2, j3, b3⟩
  have hj : j = k + 1 := by
    refine bits_unique j0 (by omega) j1 j2 ?_ ?_
    · have := unhide K1
      obtain ⟨i, rfl⟩ : ∃ i, k = i + 1 := ⟨k - 1, by omega⟩
      rw [Nat.add_sub_cancel] at this ⊢
      rw [Int.pow_succ]
      omega
    · have := unhide K2
      rw [Int.pow_succ]
      omega
  subst hj
  replace ha := ha.below b3
  replace htab := htab.below b3
  replace b3 := b2.trans (b3.mono b2.size)
  clear b2 S j1 j2 j3 j0
  have hmk : ∀ u : World, (Instr.makeSlice 22 (.int .i64 ((k : Int) / 32 + 1)) (.int .i64 ((k : Int) / 32 + 1))).run Tryd.prog u =
      .ok (.slice (some ⟨u.heap.size, 0, none⟩) (k / 32 + 1) (k / 32 + 1)) (u.alloc (.cells (U (List.replicate (k / 32 + 1) 0)) 35)) := fun u => by
    have h := run_mk' (k / 32) (by omega) u
    rw [Int.natCast_ediv] at h
    exact h
  have hne0 : ((k : Int) == 0) = false := by rw [beq_eq_false_iff_ne]; omega
  have hU : (U (List.replicate (k / 32 + 1) 0))[(k - 1) / 32]? = some (.int .u32 0) := by
    rw [U_get (by rw [List.length_replicate]; omega), lz_replicate]
  have hv0 : (2 : Int) ^ ((k - 1) % 32) % 4294967296 = 2 ^ ((k - 1) % 32) := by
    have h1 := p2_pos ((k - 1) % 32)
    have h2 := p2_le (sh := (k - 1) % 32) (Nat.mod_lt _ (by decide))
    omega
  have hlow : Nm (w3.alloc (.cells ((U (List.replicate (k / 32 + 1) 0)).setIfInBounds ((k - 1) / 32) (.int .u32 (2 ^ ((k - 1) % 32) % 4294967296))) 35)) (some ⟨w3.heap.size, 0, none⟩) (k / 32 + 1) (k / 32 + 1) (2 ^ (k - 1)) := by
    rw [U_set, hv0]
    have h1 := p2_pos ((k - 1) % 32)
    have h2 := p2_le (sh := (k - 1) % 32) (Nat.mod_lt _ (by decide))
    have hL := (Limbs.replicate (k / 32 + 1)).set ((k - 1) / 32) (x := 2 ^ ((k - 1) % 32)) (by omega) (by omega)
    have hlen : ((List.replicate (k / 32 + 1) (0 : Int)).set ((k - 1) / 32) (2 ^ ((k - 1) % 32))).length = k / 32 + 1 := by rw [List.length_set, List.length_replicate]
    have hrd := (row_alloc w3 ((List.replicate (k / 32 + 1) 0).set ((k - 1) / 32) (2 ^ ((k - 1) % 32)))).rd hL (off := 0) (len := k / 32 + 1) (cap := k / 32 + 1) (by omega) (Nat.le_refl _) (by omega)
    rw [List.drop_zero, List.take_of_length_le (by omega)] at hrd
    refine ⟨_, hrd, ?_⟩
    unfold val
    rw [hlen, vl_set _ (by rw [List.length_replicate]; omega) (by omega), vl_replicate, lz_replicate, pw_two, Int.sub_zero, Int.zero_add, ← Int.pow_add]
    congr 1
    omega
  have hal := below_alloc w3 (.cells ((U (List.replicate (k / 32 + 1) 0)).setIfInBounds ((k - 1) / 32) (.int .u32 (2 ^ ((k - 1) % 32) % 4294967296))) 35)
  have HLOW := hide hlow
  have HAL := hide hal
  clear hv0 hlow hal
  go_wp2_with fail
  have hlow := unhide HLOW
  have hal := unhide HAL
  clear HLOW HAL hmk hU
  replace ha := ha.below hal
  replace htab := htab.below hal
  replace hal := b3.trans (hal.mono b3.size)
  clear b3
  generalize w3.alloc (.cells ((U (List.replicate (k / 32 + 1) 0)).setIfInBounds ((k - 1) / 32) (.int .u32 (2 ^ ((k - 1) % 32) % 4294967296))) 35) = w4 at *
  have hlt : a < 2 ^ (k - 1) + 2 ^ (k - 1) := by
    have := unhide K2
    obtain ⟨i, rfl⟩ : ∃ i, k = i + 1 := ⟨k - 1, by omega⟩
    rw [Nat.add_sub_cancel]
    rw [Int.pow_succ] at this
    omega
  have hle := unhide K1
  generalize (2 : Int) ^ (k - 1) = t at *
  by_cases heq : t = a
  · have HT := hide hlt
    clear hle
    refine (cmp_0 hlow ha (heq)).mono ?_
    rintro e w5 ⟨rfl, b5⟩
    replace ha := ha.below b5
    replace hlow := hlow.below b5
    replace htab := htab.below b5
    replace b5 := hal.trans (b5.mono hal.size)
    clear hal
    go_wp2_with fail
    refine (add_n hlow hlow (by omega) (by omega)).mono ?_
    rintro e w6 ⟨aS, lS, cS, rfl, S, b6, kS⟩
    replace ha := ha.below b6
    replace htab := htab.below b6
    replace b6 := b5.trans (b6.mono b5.size)
    clear hlow b5
    go_wp2_with fail
    refine (cmp_lt ha S.nm (unhide HT)).mono ?_
    rintro e w7 ⟨rfl, b7⟩
    replace htab := htab.below b7
    replace b7 := b6.trans (b7.mono b6.size)
    clear S ha b6
    go_wp2_with fail
    refine (known_any w7 htab).mono ?_
    rintro e w8 ⟨rfl, b8⟩
    replace b8 := b7.trans (b8.mono b7.size)
    clear htab b7
    go_wp2_with fail
    go_ret
    exact ⟨rfl, b8⟩
  · have HT := hide hlt
    refine (cmp_lt hlow ha (by omega)).mono ?_
    rintro e w5 ⟨rfl, b5⟩
    replace ha := ha.below b5
    replace hlow := hlow.below b5
    replace htab := htab.below b5
    replace b5 := hal.trans (b5.mono hal.size)
    clear hal
    go_wp2_with fail
    refine (add_n hlow hlow (by omega) (by omega)).mono ?_
    rintro e w6 ⟨aS, lS, cS, rfl, S, b6, kS⟩
    replace ha := ha.below b6
    replace htab := htab.below b6
    replace b6 := b5.trans (b6.mono b5.size)
    clear hlow b5
    go_wp2_with fail
    refine (cmp_lt ha S.nm (unhide HT)).mono ?_
    rintro e w7 ⟨rfl, b7⟩
    replace htab := htab.below b7
    replace b7 := b6.trans (b7.mono b6.size)
    clear S ha b6
    go_wp2_with fail
    refine (known_any w7 htab).mono ?_
    rintro e w8 ⟨rfl, b8⟩
    replace b8 := b7.trans (b8.mono b7.size)
    clear htab b7
    go_wp2_with fail
    go_ret
    exact ⟨rfl, b8⟩

theorem natDigits_walk {aa : Option Addr} {la ca : Nat} {a : Int} {w : World} (ha : Nm w aa la ca a) (hla : la ≤ 1048576) (htab : Tab w) :
    Calls Tryd.prog 6 #[.slice aa la ca] w fun e w' => e = .returned (.bool true) ∧ Below w.heap.size w w' := by
  have h0 := ha.nonneg
  by_cases hz : a = 0
  · exact natDigits_zero ha hla htab hz
  · exact natDigits_pos ha hla htab (by omega)
end Go.Proofs.YtpkbdfdbmeilpabDoor
