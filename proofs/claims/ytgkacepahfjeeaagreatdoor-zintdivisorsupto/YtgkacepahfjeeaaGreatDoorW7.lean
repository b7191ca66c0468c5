/-
  Walks: divideByLimb.
-/
import Derived.Test.YtgkacepahfjeeaaGreatDoorW6
namespace Go.Proofs.YtgkacepahfjeeaaGreatDoor
open Go.RowKit

theorem or64 (x y : Int) (h0 : 0 ≤ x) (h1 : x < 4294967296) (h2 : 0 ≤ y) (h3 : y < 4294967296) : bits .or .u64 (x * 4294967296) y = x * 4294967296 + y := by
  obtain ⟨a, rfl⟩ := Int.eq_ofNat_of_zero_le h0
  obtain ⟨b, rfl⟩ := Int.eq_ofNat_of_zero_le h2
  have e1 : ((a : Int) * 4294967296) = ((a * 4294967296 : Nat) : Int) := by omega
  rw [e1, u64_or_nat _ _ (by omega) (by omega)]
  have e2 : a * 4294967296 ||| b = a * 4294967296 + b := by
    have := Nat.two_pow_add_eq_or_of_lt (i := 32) (b := b) (by omega) a
    rw [Nat.mul_comm a]
    exact this.symm
  rw [e2]
  omega

set_option maxRecDepth 100000 in
set_option maxHeartbeats 800000 in
theorem divl_nil (d : Int) (w : World) :
    Calls Tryz.prog 63 #[.slice none 0 0, .int .u32 d] w fun e w' => e = .returned (.int .u32 0) ∧ w = w' := by
  go_enter Tryz.func63, Tryz.ntmps63
  go_wp2
  refine wp_loop_rounds 1 ?_
  rw [rounds_succ]
  go_wp2
  go_ret
  exact ⟨rfl, rfl⟩

set_option maxRecDepth 100000 in
set_option maxHeartbeats 800000 in
theorem divl_row {w : World} {b : Nat} {zs : List Int} {len cap : Nat} {d : Int} (hr : Row w b zs) (hL : Limbs zs) (hlen : len ≤ zs.length) (hbig : len ≤ 1099511627776) (hd0 : 0 < d) (hd1 : d < 4294967296) :
    Calls Tryz.prog 63 #[.slice (some ⟨b, 0, none⟩) len cap, .int .u32 d] w fun e w' => ∃ zk, e = .returned (.int .u32 (vl zs len % d)) ∧ Row w' b zk ∧ Limbs zk ∧ zk.length = zs.length ∧ (∀ j, len ≤ j → lz zk j = lz zs j) ∧ vl zk len = vl zs len / d ∧ Only b w w' := by
  go_enter Tryz.func63, Tryz.ntmps63
  go_wp2
  go_loopw [5, 6] (fun l i wr => ∃ (k : Nat) (r : Int) (zk : List Int), k ≤ len ∧ i = .int .i64 ((k : Int) - 1) ∧ l = .int .u64 r ∧ 0 ≤ r ∧ r < d ∧ Row wr b zk ∧ Limbs zk ∧ zk.length = zs.length ∧ (∀ j, j < k ∨ len ≤ j → lz zk j = lz zs j) ∧ vl zs len - vl zs k = d * (vl zk len - vl zk k) + r * pw k ∧ Only b w wr) (fun _ i _ => (intOf i + 1).toNat)
  case atStart => exact ⟨len, 0, zs, Nat.le_refl _, rfl, rfl, by decide, hd0, hr, hL, rfl, fun _ _ => rfl, by simp, Only.refl _ _⟩
  case round =>
    obtain ⟨k, r, zk, hk, rfl, rfl, hr0, hr1, hrow, hzL, hzl, hsame, hv, honly⟩ := hrel
    have HV := hide hv
    have HS := hide hsame
    clear hv hsame
    cases k with
    | zero =>
      have hfin : Hid (vl zs len % d = r ∧ vl zk len = vl zs len / d) := by
        have h := unhide HV
        simp only [vl, pw, Int.sub_zero, Int.mul_one] at h
        rw [h]
        refine ⟨?_, ?_⟩
        · rw [Int.add_comm, Int.add_mul_emod_self_left, Int.emod_eq_of_lt hr0 hr1]
        · rw [Int.add_comm, Int.add_mul_ediv_left _ _ (by omega), Int.ediv_eq_zero_of_lt hr0 hr1, Int.zero_add]
      clear HV
      go_wp2
      go_ret
      exact ⟨zk, ret_int (unhide hfin).1.symm, hrow, hzL, hzl, fun j hj => (unhide HS) j (.inr hj), (unhide hfin).2, honly⟩
    | succ m =>
      have hcell := hrow.cell (i := m) (by omega)
      have hfr := hrow.frozen m
      have hB := lz_bd hzL m
      have ho := or64 r (lz zk m) hr0 (by omega) hB.1 hB.2
      have HM := hide ((unhide HS) m (.inl (by omega)))
      have hq : Hid (r * 4294967296 + lz zs m = d * ((r * 4294967296 + lz zk m) / d) + (r * 4294967296 + lz zk m) % d) := by
        show _ = _
        rw [← unhide HM]
        exact (Int.mul_ediv_add_emod _ _).symm
      have HD := hide (div_step (zs := zs) (zk := zk) (m := m) (len := len) (d := d) (r := r) (by omega) (by omega) (unhide HM) (unhide hq) (unhide HV))
      have q0 : 0 ≤ (r * 4294967296 + lz zk m) / d := Int.ediv_nonneg (by omega) (by omega)
      have q1 : (r * 4294967296 + lz zk m) / d < 4294967296 := by
        refine Int.ediv_lt_of_lt_mul hd0 ?_
        have : (r + 1) * 4294967296 ≤ d * 4294967296 := Int.mul_le_mul_of_nonneg_right (by omega) (by decide)
        rw [Int.mul_comm 4294967296 d]
        omega
      have r0 : 0 ≤ (r * 4294967296 + lz zk m) % d := Int.emod_nonneg _ (by omega)
      have r1 : (r * 4294967296 + lz zk m) % d < d := Int.emod_lt_of_pos _ hd0
      clear hq HV
      generalize hx : lz zk m = x at *
      clear hx
      go_wp2
      exact ⟨⟨m, _, _, by omega, rfl, rfl, r0, r1, hrow.set m _, hzL.set m q0 q1, by rw [List.length_set]; exact hzl, fun j hj => by rw [lz_set _ _ _ _ (by omega), if_neg (by omega)]; exact (unhide HS) j (by omega), unhide HD, honly.trans (Only.set b m wr _)⟩, by simp [intOf]⟩
end Go.Proofs.YtgkacepahfjeeaaGreatDoor
