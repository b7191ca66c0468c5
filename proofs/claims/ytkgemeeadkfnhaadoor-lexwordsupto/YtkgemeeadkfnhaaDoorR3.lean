/-
  Walks of the reference package: Cmp, Add, Sub.
-/
import Derived.Test.YtkgemeeadkfnhaaDoorR1
namespace Go.Proofs.YtkgemeeadkfnhaaDoor
open Go.RowKit

theorem cmpI_add (a b c : Int) : cmpI (a + c) (b + c) = cmpI a b := by
  unfold cmpI
  by_cases h1 : a < b
  · rw [if_pos h1, if_pos (by omega)]
  · rw [if_neg h1, if_neg (by omega)]
    by_cases h2 : b < a
    · rw [if_pos h2, if_pos (by omega)]
    · rw [if_neg h2, if_neg (by omega)]

theorem ret_val {a b : Int} (h : a = b) : Value.int .i64 a = .int .i64 b := by rw [h]

theorem cmp_up {xs ys : List Int} (hx : Limbs xs) (hy : Limbs ys) (k : Nat) : cmpI (vl xs (k + 1)) (vl ys (k + 1)) = if lz xs k < lz ys k then -1 else if lz ys k < lz xs k then 1 else cmpI (vl xs k) (vl ys k) := by
  split
  · rename_i h; exact cmpI_lt (vl_lt_of_lz hx hy (i := k) (by omega) (fun j h1 h2 => by omega) h)
  · split
    · rename_i h; exact cmpI_gt (vl_lt_of_lz hy hx (i := k) (by omega) (fun j h1 h2 => by omega) h)
    · have e : lz xs k = lz ys k := by omega
      rw [vl_succ, vl_succ, e, cmpI_add]

theorem snoc_step {zs : List Int} {k : Nat} {cr s T : Int} (hk : zs.length = k) (h : val zs + cr * pw k = T) :
    val (zs ++ [(s + cr) % 4294967296]) + ((s + cr) / 4294967296) * pw (k + 1) = T + s * pw k := by
  rw [val_snoc, hk, pw_succ]
  have e : (s + cr) % 4294967296 + 4294967296 * ((s + cr) / 4294967296) = s + cr := Int.emod_add_mul_ediv _ _
  have e2 : (s + cr) / 4294967296 * (4294967296 * pw k) = (4294967296 * ((s + cr) / 4294967296)) * pw k := by
    rw [← Int.mul_assoc, Int.mul_comm ((s + cr) / 4294967296)]
  rw [e2, Int.add_assoc, ← Int.add_mul, e, Int.add_mul]
  omega

theorem out_nil (w : World) : Out w w none 0 0 [] := ⟨Below.refl _ _, .inl ⟨rfl, rfl, rfl, rfl⟩⟩

theorem vl_small {ys : List Int} (h : Limbs ys) {k : Nat} (hv : val ys < pw k) : vl ys k = val ys := by
  have key : ∀ m, vl ys (k + m) < pw k → vl ys (k + m) = vl ys k := by
    intro m
    induction m with
    | zero => intro _; rfl
    | succ m ih =>
      intro hm
      rw [← Nat.add_assoc, vl_succ] at hm ⊢
      have hb := lz_bd h (k + m)
      have h0 := (vl_bd h (k + m)).1
      have hp := pw_pos (k + m)
      have hmm : pw k ≤ pw (k + m) := pw_mono (by omega)
      have hz : lz ys (k + m) = 0 := by
        rcases Int.lt_or_le 0 (lz ys (k + m)) with h1 | h1
        · have : 1 * pw (k + m) ≤ lz ys (k + m) * pw (k + m) := Int.mul_le_mul_of_nonneg_right (by omega) (by omega)
          omega
        · omega
      rw [hz] at hm ⊢
      rw [Int.zero_mul, Int.add_zero] at hm ⊢
      exact ih hm
  have e : vl ys (k + ys.length) = val ys := vl_ge (by omega)
  rw [← e]
  exact (key _ (by rw [e]; exact hv)).symm

theorem snoc_sub {zs : List Int} {k : Nat} {bw d T : Int} (hk : zs.length = k) (h : val zs - bw * pw k = T) :
    val (zs ++ [(4294967296 + d - bw) % 4294967296]) - (1 - (4294967296 + d - bw) / 4294967296) * pw (k + 1) = T + d * pw k := by
  rw [val_snoc, hk, pw_succ]
  have e : (4294967296 + d - bw) % 4294967296 + 4294967296 * ((4294967296 + d - bw) / 4294967296) = 4294967296 + d - bw := Int.emod_add_mul_ediv _ _
  generalize (4294967296 + d - bw) % 4294967296 = z at *
  generalize (4294967296 + d - bw) / 4294967296 = q at *
  have e3 : z = 4294967296 + d - bw - 4294967296 * q := by omega
  subst e3
  have e4 : (1 - q) * (4294967296 * pw k) = (4294967296 - 4294967296 * q) * pw k := by
    rw [← Int.mul_assoc, Int.sub_mul, Int.one_mul, Int.mul_comm q]
  rw [e4, ← h]
  simp only [Int.sub_mul, Int.add_mul]
  omega

end Go.Proofs.YtkgemeeadkfnhaaDoor
