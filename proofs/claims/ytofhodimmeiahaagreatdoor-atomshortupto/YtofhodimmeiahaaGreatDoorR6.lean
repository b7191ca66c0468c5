/-
  Walks of the reference package: Mul.
-/
import Derived.Test.YtofhodimmeiahaaGreatDoorR5
namespace Go.Proofs.YtofhodimmeiahaaGreatDoor
open Go.RowKit

theorem run_copy_off {w : World} {g d dLen dCap n cap : Nat} {ad : Option Addr} {cur X : List Int} (hg : Row w g cur) (hX : Rd w ad n cap X) (hd : d + dLen ≤ cur.length) (ty : TypeId) :
    ∃ v' w', (Builtin.copy_ #[22, 22] ty #[.slice (some ⟨g, d, none⟩) dLen dCap, .slice ad n cap]).run Tryz.prog w = .ok v' w' ∧ (∃ k : Nat, v' = goInt k) ∧ Row w' g (cur.take d ++ X.take (min n dLen) ++ cur.drop (d + min n dLen)) ∧ Only g w w' := by
  obtain ⟨h1, h2, h3, h4, h5⟩ := hX
  have fin : ∀ a, ad = some a → (∀ j, j < n → w.cell? (a.add j) = some (.int .u32 (lz X j))) → ∃ v' w', (Builtin.copy_ #[22, 22] ty #[.slice (some ⟨g, d, none⟩) dLen dCap, .slice ad n cap]).run Tryz.prog w = .ok v' w' ∧ (∃ k : Nat, v' = goInt k) ∧ Row w' g (cur.take d ++ X.take (min n dLen) ++ cur.drop (d + min n dLen)) ∧ Only g w w' := by
    rintro a rfl hc
    have hlen : ((X.take (min n dLen)).map (Value.int .u32)).length = Nat.min n dLen := by
      rw [List.length_map, List.length_take]; show min (min n dLen) X.length = min n dLen; omega
    have hr := run_copy_row (P := Tryz.prog) w 22 22 ty 100 g d dLen dCap a n cap (U cur) 100 ((X.take (min n dLen)).map (Value.int .u32)) Tryz.underlying22 size49 hg hlen
      (fun j v hv => by
        obtain ⟨q1, rfl⟩ := lz_map hv
        rw [List.length_take] at q1
        rw [lz_take, if_pos (by omega)]
        exact hc j (by omega))
      (by rw [U_size, hlen]; show d + min n dLen ≤ _; omega)
      (fun u hu => by obtain ⟨z, _, rfl⟩ := List.mem_map.1 hu; rfl)
    refine ⟨_, _, hr, ⟨_, rfl⟩, ?_, ⟨rfl, rfl, rfl, by simp, fun k hk => setRow_other w g k _ hk⟩⟩
    have := setRow_heap w g (U cur) ((U cur).toList.take d ++ (X.take (min n dLen)).map (Value.int .u32) ++ (U cur).toList.drop (d + ((X.take (min n dLen)).map (Value.int .u32)).length)).toArray 100 (0, 0) hg
    rw [Row, this, hlen]
    have hmm : Nat.min n dLen = min n dLen := rfl
    simp [U, List.map_take, List.map_drop, hmm]
  rcases h5 with ⟨rfl, rfl, rfl⟩ | ⟨a, rfl, rfl | ⟨b, off, rfl, _, hc⟩⟩
  · refine ⟨_, _, run_copy_nil (P := Tryz.prog) w 22 22 ty 100 ⟨g, d, none⟩ dLen dCap Tryz.underlying22 (by rw [size49]; rfl), ⟨0, rfl⟩, ?_, Only.refl _ _⟩
    simpa using hg
  · exact fin a rfl (fun j hj => absurd hj (by omega))
  · exact fin _ rfl (fun j hj => by rw [Addr.add_lit]; exact hc j hj)

theorem vl_cons (x : Int) (zs : List Int) (n : Nat) : vl (x :: zs) (n + 1) = x + 4294967296 * vl zs n := by
  induction n with
  | zero => simp [vl, lz, pw]
  | succ n ih =>
    rw [vl_succ (x :: zs) (n + 1), ih, vl_succ zs n, pw_succ]
    have e : lz (x :: zs) (n + 1) = lz zs n := by simp [lz]
    rw [e, Int.mul_add, ← Int.mul_assoc, ← Int.mul_assoc, Int.mul_comm (lz zs n) 4294967296]
    omega
theorem val_cons (x : Int) (zs : List Int) : val (x :: zs) = x + 4294967296 * val zs := by
  unfold val
  rw [List.length_cons, vl_cons]

theorem mul_h {X : List Int} {j : Nat} {H vx : Int} (vy : Int) (hv : vx = vl X (j + 1) + pw (j + 1) * H) :
    vx = vl X j + pw j * (lz X j + 4294967296 * H) ∧ 4294967296 * (H * vy) + (vy * lz X j + 0) = (lz X j + 4294967296 * H) * vy := by
  constructor
  · rw [hv, vl_succ, pw_succ, Int.mul_add, Int.mul_comm (lz X j) (pw j), Int.mul_comm 4294967296 (pw j), Int.mul_assoc]
    omega
  · rw [Int.add_mul, Int.mul_comm vy (lz X j), Int.mul_assoc]
    omega
theorem h_bd {H x : Int} {m : Nat} (h0 : 0 ≤ H) (h1 : H < pw m) (hx0 : 0 ≤ x) (hx1 : x < 4294967296) : 0 ≤ x + 4294967296 * H ∧ x + 4294967296 * H < pw (m + 1) := by
  rw [pw_succ]
  omega

theorem rd_cell {w : World} {b off len cap i : Nat} {zs : List Int} (h : Rd w (some ⟨b, off, none⟩) len cap zs) (hi : i < len) : w.cell? ⟨b, off + i, none⟩ = some (.int .u32 (lz zs i)) := by
  obtain ⟨_, _, _, _, h5⟩ := h
  rcases h5 with ⟨h5, _⟩ | ⟨a, h5, h6⟩
  · cases h5
  · injection h5 with h5
    subst h5
    rcases h6 with h6 | ⟨b', o', h6, _, h7⟩
    · omega
    · injection h6 with e1 e2 _
      subst e1 e2
      exact h7 i hi
theorem Limbs.cons0 {zs : List Int} (h : Limbs zs) : Limbs (0 :: zs) := fun z hz => by
  rcases List.mem_cons.1 hz with rfl | h'
  · decide
  · exact h z h'
theorem prod_lt {a b A B : Int} (h0 : 0 ≤ a) (h1 : a < A) (h2 : 0 ≤ b) (h3 : b < B) : a * b < A * B := by
  have h4 : a * b ≤ a * B := Int.mul_le_mul_of_nonneg_left (Int.le_of_lt h3) h0
  have h5 : a * B < A * B := Int.mul_lt_mul_of_pos_right h1 (by omega)
  omega

end Go.Proofs.YtofhodimmeiahaaGreatDoor
