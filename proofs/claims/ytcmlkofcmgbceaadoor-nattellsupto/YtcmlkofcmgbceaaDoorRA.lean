/-
  Walks of the reference package: Of, Bits.
-/
import Derived.Test.YtcmlkofcmgbceaaDoorR5
import Derived.Test.YtcmlkofcmgbceaaDoorK2
namespace Go.Proofs.YtcmlkofcmgbceaaDoor
open Go.RowKit

theorem rd_cell' {w : World} {b off len cap i : Nat} {zs : List Int} (h : Rd w (some ⟨b, off, none⟩) len cap zs) (hi : i < len) : w.cell? ⟨b, off + i, none⟩ = some (.int .u32 (lz zs i)) := by
  obtain ⟨_, _, _, _, h5⟩ := h
  rcases h5 with ⟨h5, _⟩ | ⟨a, h5, h6⟩
  · cases h5
  · injection h5 with h5
    subst h5
    rcases h6 with h6 | ⟨b', o', h6, _, h7⟩
    · omega
    · injection h6 with e1 e2 _
      subst e1 e2
      exact h7 i hi
theorem bitAux_more (f : Nat) : ∀ x : Nat, x < 2 ^ f → Lib.bitLenAux f x = Lib.bitLenAux (f + 1) x := by
  induction f with
  | zero => intro x hx; have : x = 0 := by simpa using hx
            subst this; rfl
  | succ f ih =>
    intro x hx
    have h2 : x / 2 < 2 ^ f := by rw [Nat.pow_succ] at hx; omega
    show (if x = 0 then 0 else 1 + Lib.bitLenAux f (x / 2)) = (if x = 0 then 0 else 1 + Lib.bitLenAux (f + 1) (x / 2))
    rw [ih _ h2]
theorem bitLen_half {y : Nat} (h0 : 0 < y) (h1 : y < 4294967296) : Lib.bitLen y = 1 + Lib.bitLen (y / 2) := by
  have h : Lib.bitLenAux 63 (y / 2) = Lib.bitLenAux 64 (y / 2) := bitAux_more 63 _ (by omega)
  show (if y = 0 then 0 else 1 + Lib.bitLenAux 63 (y / 2)) = 1 + Lib.bitLenAux 64 (y / 2)
  rw [if_neg (by omega), h]

set_option maxRecDepth 100000 in
set_option maxHeartbeats 1600000 in
theorem refbits_any {a1 : Option Addr} {l1 c1 : Nat} {xs : List Int} {w : World} (h1 : Rd w a1 l1 c1 xs) (hl : l1 ≤ 17179869184) :
    Calls Tryd.prog 25 #[.slice a1 l1 c1] w fun e w' => e = .returned (.int .i64 (bitsL (trim xs))) ∧ Below w.heap.size w w' := by
  go_enter Tryd.func25, Tryd.ntmps25
  go_wp2_with fail
  refine (trim_any h1 (by omega)).mono ?_
  rintro e w1 ⟨rfl, ho1, -⟩
  have hn := tl_le xs l1
  have hX := ho1.rd
  have k1 := ho1.1
  clear ho1
  obtain ⟨X, HX⟩ : ∃ X, X = trim xs := ⟨_, rfl⟩
  obtain ⟨n, HN⟩ : ∃ n, n = tl xs l1 := ⟨_, rfl⟩
  rw [← HX, ← HN] at hX
  rw [← HN] at hn ⊢
  replace HX := hide HX
  replace HN := hide HN
  have hXl := hX.1
  have hXL := hX.2.2.2.1
  by_cases h0 : n = 0
  · subst h0
    go_wp2_with fail
    go_ret
    refine ⟨ret_int ?_, k1⟩
    rw [← unhide HX]
    unfold bitsL
    rw [if_pos hXl]
    rfl
  · obtain ⟨n, rfl⟩ : ∃ i, n = i + 1 := ⟨n - 1, by omega⟩
    have hcell := rd_cell' hX (i := n) (by omega)
    rw [Nat.zero_add] at hcell
    have B := lz_bd hXL n
    have HT : Hid (bitsL X = 32 * n + Lib.bitLen (lz X n).toNat) := by
      show _ = _
      unfold bitsL
      rw [if_neg (by omega), hXl, Nat.add_sub_cancel]
    obtain ⟨y, hy⟩ := Int.eq_ofNat_of_zero_le B.1
    rw [hy] at hcell HT B
    rw [Int.toNat_natCast] at HT
    have hy1 : y < 4294967296 := by omega
    clear hy B
    go_wp2_with fail
    go_loopw [4, 5] (fun c t wr => ∃ (k z : Nat), c = .int .i64 k ∧ t = .int .u32 z ∧ z < 4294967296 ∧ k ≤ 32 * n + 64 ∧ Hid (k + Lib.bitLen z = 32 * n + Lib.bitLen y) ∧ w1 = wr) (fun _ t _ => (intOf t).toNat)
    case atStart => exact ⟨32 * n, y, by go_num, rfl, hy1, by omega, (by show _ = _; rfl), rfl⟩
    case round =>
      obtain ⟨k, z, rfl, rfl, hz1, hk, HK, rfl⟩ := hrel
      by_cases hz0 : 0 < z
      · have hh := bitLen_half hz0 hz1
        have HK2 : Hid (k + 1 + Lib.bitLen (z / 2) = 32 * n + Lib.bitLen y) := by
          show _ = _
          have := HK.out
          omega
        have hle := bitLen_le32 y hy1
        have hk2 : k + 1 ≤ 32 * n + 64 := by have := HK2.out; omega
        clear hh
        go_wp2_with fail
        exact ⟨⟨k + 1, z / 2, by go_num, by go_num, by omega, hk2, HK2, trivial⟩, by simp [intOf]; omega⟩
      · obtain rfl : z = 0 := by omega
        have hkf : k = bitsL X := by
          have h9 := HK.out
          rw [bitLen_zero] at h9
          rw [HT.out]
          omega
        go_wp2_with fail
        go_ret
        refine ⟨ret_int ?_, k1⟩
        rw [hkf, ← unhide HX]

set_option maxRecDepth 100000 in
set_option maxHeartbeats 1600000 in
theorem refof_any (n : Int) (h0 : 0 ≤ n) (h1 : n < 18446744073709551616) (w : World) :
    Calls Tryd.prog 23 #[.int .u64 n] w fun e w' => ∃ ad len cap zs, e = .returned (.slice ad len cap) ∧ Out w w' ad len cap zs ∧ Canon zs ∧ val zs = n ∧ len ≤ 2 := by
  go_enter Tryd.func23, Tryd.ntmps23
  go_wp2_with fail
  have hl : Limbs [n % 4294967296, n / 4294967296] := fun z hz => by
    simp at hz
    rcases hz with rfl | rfl
    · omega
    · omega
  have hr := (row_alloc w [n % 4294967296, n / 4294967296]).rd hl (off := 0) (len := 2) (cap := 2) (by simp) (Nat.le_refl _) (by decide)
  have hv : val [n % 4294967296, n / 4294967296] = n := by
    simp [val, vl, lz, pw]
    omega
  rw [List.drop_zero, show List.take 2 [n % 4294967296, n / 4294967296] = [n % 4294967296, n / 4294967296] from rfl] at hr
  have ka := below_alloc w (.cells (U [n % 4294967296, n / 4294967296]) 55)
  refine (trim_any hr (by decide)).mono ?_
  rintro e w1 ⟨rfl, ho1, -⟩
  have ho2 := ho1.outer ka
  rw [show (w.alloc (.cells (U [n % 4294967296, n / 4294967296]) 55)).heap.size = w.heap.size + 1 from by simp] at ho2
  have ht := tl_le [n % 4294967296, n / 4294967296] 2
  go_wp2_with fail
  go_ret
  exact ⟨_, _, _, _, rfl, ho2, canon_trim hl, (val_trim _).trans hv, ht⟩

end Go.Proofs.YtcmlkofcmgbceaaDoor
