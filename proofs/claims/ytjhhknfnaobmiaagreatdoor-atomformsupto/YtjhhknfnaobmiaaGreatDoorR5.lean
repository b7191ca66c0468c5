/-
 Walks of the reference package: Times.
-/
import Derived.Test.YtjhhknfnaobmiaaGreatDoorR3
namespace Go.Proofs.YtjhhknfnaobmiaaGreatDoor
open Go.RowKit

set_option maxRecDepth 100000 in
set_option maxHeartbeats 1600000 in
theorem reftimes_any {a1 : Option Addr} {l1 c1 : Nat} {xs : List Int} {w : World} {n m : Int} (h1 : Rd w a1 l1 c1 xs) (hl1 : l1 ≤ 1099511627776) (hn0 : 0 ≤ n) (hn1 : n < 4294967296) (hm0 : 0 ≤ m) (hm1 : m < 4294967296) :
  Calls Tryz.prog 138 #[.slice a1 l1 c1, .int .u32 n, .int .u32 m] w fun e w' => ∃ ad len cap zs, e = .returned (.slice ad len cap) ∧ Out w w' ad len cap zs ∧ Canon zs ∧ val zs = val xs * n + m ∧ len ≤ l1 + 1 := by
 have L1 : Hid (xs.length = l1) := h1.1
 go_enter Tryz.func138, Tryz.ntmps138
 go_wp2_with fail
 go_loopw [7, 8, 9] (fun o c i wr => ∃ (k : Nat) (cr : Int) (ad : Option Addr) (cap : Nat) (zs : List Int), k ≤ l1 ∧ i = .int .i64 k ∧ c = .int .u64 cr ∧ o = .slice ad k cap ∧ 0 ≤ cr ∧ cr < 4294967296 ∧ Out w wr ad k cap zs ∧ Hid (val zs + cr * pw k = vl xs k * n + m)) (fun _ _ i _ => l1 - (intOf i).toNat)
 case atStart => exact ⟨0, m, none, 0, [], Nat.zero_le _, rfl, rfl, rfl, by omega, by omega, out_nil w, by show _ = _; simp [val, vl, pw]⟩
 case round =>
  obtain ⟨k, cr, ad, cap, zs, hk, rfl, rfl, rfl, hc0, hc1, hO, HV⟩ := hrel
  by_cases hkN : k < l1
  ·have q1 := h1.below hO.1
   have B1 := lz_bd h1.2.2.2.1 k
   have hmb := mul_bd B1.1 B1.2 hn0 hn1
   have HS : Hid (val (zs ++ [(lz xs k * n + cr) % 4294967296]) + ((lz xs k * n + cr) / 4294967296) * pw (k + 1) = vl xs (k + 1) * n + m) := by
    have := snoc_step (s := lz xs k * n) hO.rd.1 HV.out
    show _ = _
    rw [this, vl_succ, Int.add_mul, Int.mul_right_comm (lz xs k) (pw k) n]
    omega
   obtain ⟨_, _, _, _, h5⟩ := q1
   rcases h5 with ⟨_, h6, _⟩ | ⟨a, rfl, h6 | ⟨b, off, rfl, _, hc⟩⟩
   ·omega
   ·omega
   ·have hcn := hc k hkN
    clear hc
    generalize lz xs k = x at *
    go_wp2_with (at_builtin; refine wpList_append_run rfl _ _ 22 rfl _ _ rfl rfl _ (run_append_one hO _ ((x * n + cr) % 4294967296) (by omega) (by omega) (by omega)) ?_; rintro v' w3 ⟨ad', cap', rfl, ho3, -, -, -⟩)
    exact ⟨⟨k + 1, _, ad', cap', _, by omega, by go_num, rfl, rfl, by omega, by omega, ho3, HS⟩, by simp [intOf]; omega⟩
  ·have HE : Hid (val (zs ++ [cr]) = val xs * n + m) := by
    show _ = _
    rw [val_snoc, hO.rd.1, HV.out, vl_ge (by have := L1.out; omega)]
   go_wp2_with (at_builtin; refine wpList_append_run rfl _ _ 22 rfl _ _ rfl rfl _ (run_append_one hO _ cr (by omega) (by omega) (by omega)) ?_; rintro v' w3 ⟨ad', cap', rfl, ho3, -, -, -⟩)
   refine (trim_any ho3.rd (by omega)).mono ?_
   rintro e w4 ⟨rfl, ho4, -⟩
   have hlen := tl_le (zs ++ [cr]) (k + 1)
   go_wp2_with fail
   go_ret
   exact ⟨_, _, _, _, rfl, ho4.outer ho3.1, canon_trim ho3.rd.2.2.2.1, (val_trim _).trans HE.out, by omega⟩

end Go.Proofs.YtjhhknfnaobmiaaGreatDoor
