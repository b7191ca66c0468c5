/-
  Walks of the small functions: bare, limb.
-/
import Derived.Test.YtofjjpkbildagaaChecked
import Derived.Test.YtofjjpkbildagaaRd
import Derived.WalkKit
import Derived.WalkLawsBesides
import Derived.WalkMore
import Derived.Deep.QuietTactic
import Derived.BigQuiet
namespace Go.Proofs.Ytofjjpkbildagaa
open Go.RowKit

theorem ret_slice {a b : Option Addr} {n m c d : Nat} (h : a = b) (h1 : n = m) (h2 : c = d) : Ending.returned (.slice a n c) = .returned (.slice b m d) := by rw [h, h1, h2]

set_option maxHeartbeats 400000 in
theorem bare_walk (b off len cap : Nat) (zs : List Int) (w : World) (hcap : len ≤ cap) (hbig : cap ≤ 9223372036854775807)
    (hc : ∀ j, j < len → w.cell? ⟨b, off + j, none⟩ = some (.int .u32 (lz zs j))) :
    Calls Try.prog 39 #[.slice (some ⟨b, off, none⟩) len cap] w fun e w' => e = .returned (.slice (some ⟨b, off, none⟩) (tl zs len) cap) ∧ w = w' := by
  go_enter Try.func39, Try.ntmps39
  go_wp2
  go_step3
  go_wp2
  go_step3
  go_wp2
  go_loop [3] (fun n => ∃ k : Nat, k ≤ len ∧ n = .int .i64 k ∧ tl zs len = tl zs k) (fun n => (intOf n).toNat)
  case atStart => exact ⟨len, Nat.le_refl _, rfl, rfl⟩
  case round =>
    obtain ⟨k, hk, rfl, ht⟩ := hrel
    have HT : Hid (tl zs len = tl zs k) := ht
    clear ht
    cases k with
    | zero =>
      go_wp2
      go_ret
      exact ⟨ret_slice rfl (by rw [HT.out]; rfl) rfl, rfl⟩
    | succ m =>
      have hcm := hc m (by omega)
      by_cases hz0 : lz zs m = 0
      · have HZ : Hid (lz zs m = 0) := hz0
        have hz1 : (lz zs m == 0) = true := by simp [hz0]
        clear hz0
        go_wp2
        go_round
        case rel => exact ⟨m, by omega, by go_num, by rw [HT.out]; conv => lhs; rw [tl, if_pos HZ.out]⟩
        case measure => simp [intOf]
      · have HZ : Hid (¬ lz zs m = 0) := hz0
        have hz1 : (lz zs m == 0) = false := by simp [hz0]
        clear hz0
        go_wp2
        go_ret
        exact ⟨ret_slice rfl (by rw [HT.out, tl, if_neg HZ.out]) rfl, rfl⟩

set_option maxHeartbeats 400000 in
theorem bare_none (a : Option Addr) (cap : Nat) (w : World) (hbig : cap ≤ 9223372036854775807) (hn : a = none → cap = 0) :
    Calls Try.prog 39 #[.slice a 0 cap] w fun e w' => e = .returned (.slice a 0 cap) ∧ w = w' := by
  cases a with
  | none =>
    obtain rfl := hn rfl
    go_enter Try.func39, Try.ntmps39
    go_wp2
    go_step3
    go_wp2
    go_step3
    go_wp2
    refine wp_loop_rounds 1 ?_
    rw [rounds_succ]
    go_wp2
    rw [Exit.noGoto_ret]
    go_ret
    exact ⟨rfl, rfl⟩
  | some a =>
    go_enter Try.func39, Try.ntmps39
    go_wp2
    go_step3
    go_wp2
    go_step3
    go_wp2
    refine wp_loop_rounds 1 ?_
    rw [rounds_succ]
    go_wp2
    rw [Exit.noGoto_ret]
    go_ret
    exact ⟨rfl, rfl⟩

/-- bare: the same memory, without the noughts at the end. -/
theorem bare_any {ad : Option Addr} {len cap : Nat} {zs : List Int} {w : World} (h : Rd w ad len cap zs) :
    Calls Try.prog 39 #[.slice ad len cap] w fun e w' => e = .returned (.slice ad (tl zs len) cap) ∧ w = w' := by
  obtain ⟨h1, h2, h3, h4, h5⟩ := h
  rcases h5 with ⟨rfl, rfl, rfl⟩ | ⟨a, rfl, rfl | ⟨b, off, rfl, _, hc⟩⟩
  · exact bare_none none 0 w (by decide) (fun _ => rfl)
  · exact bare_none (some a) cap w h3 (fun h => by cases h)
  · exact bare_walk b off len cap zs w h2 h3 hc

end Go.Proofs.Ytofjjpkbildagaa
