/-
 Several texts in one: R1, R3, R5, R6.
-/
import Derived.Test.YtmiannlcfommpaaCno06
import Derived.Laws.CopyOwn
namespace Go.Proofs.Ytmiannlcfommpaa
open Go.RowKit

theorem size49 : (Try.prog.info? 79).map (·.size) = some 1 := by kernel_rfl

/-- copy of a slice of limbs onto the head of a row of the call's own -/
theorem run_copy_rd {w : World} {g dLen dCap n cap : Nat} {ad : Option Addr} {cur X : List Int} (hg : Row w g cur) (hX : Rd w ad n cap X) (hd : dLen ≤ cur.length) (ty : TypeId) :
  ∃ v' w', (Builtin.copy_ #[34, 34] ty #[.slice (some ⟨g, 0, none⟩) dLen dCap, .slice ad n cap]).run Try.prog w = .ok v' w' ∧ (∃ k : Nat, v' = goInt k) ∧ Row w' g (X.take (min n dLen) ++ cur.drop (min n dLen)) ∧ Only g w w' := by
 obtain ⟨h1, h2, h3, h4, h5⟩ := hX
 have fin : ∀ a, ad = some a → (∀ j, j < n → w.cell? (a.add j) = some (.int .u32 (lz X j))) → ∃ v' w', (Builtin.copy_ #[34, 34] ty #[.slice (some ⟨g, 0, none⟩) dLen dCap, .slice ad n cap]).run Try.prog w = .ok v' w' ∧ (∃ k : Nat, v' = goInt k) ∧ Row w' g (X.take (min n dLen) ++ cur.drop (min n dLen)) ∧ Only g w w' := by
  rintro a rfl hc
  have hlen : ((X.take (min n dLen)).map (Value.int .u32)).length = Nat.min n dLen := by
   rw [List.length_map, List.length_take]; show min (min n dLen) X.length = min n dLen; omega
  have hr := run_copy_row (P := Try.prog) w 34 34 ty 79 g 0 dLen dCap a n cap (U cur) 79 ((X.take (min n dLen)).map (Value.int .u32)) Try.underlying34 size49 hg hlen
   (fun j v hv => by
    obtain ⟨q1, rfl⟩ := lz_map hv
    rw [List.length_take] at q1
    rw [lz_take, if_pos (by omega)]
    exact hc j (by omega))
   (by rw [U_size, hlen]; show 0 + min n dLen ≤ _; omega)
   (fun u hu => by obtain ⟨z, _, rfl⟩ := List.mem_map.1 hu; rfl)
  refine ⟨_, _, hr, ⟨_, rfl⟩, ?_, ⟨rfl, rfl, rfl, by simp, fun k hk => setRow_other w g k _ hk⟩⟩
  have := setRow_heap w g (U cur) ((U cur).toList.take 0 ++ (X.take (min n dLen)).map (Value.int .u32) ++ (U cur).toList.drop (0 + ((X.take (min n dLen)).map (Value.int .u32)).length)).toArray 79 (0, 0) hg
  rw [Row, this, hlen]
  have hmm : Nat.min n dLen = min n dLen := rfl
  simp [U, List.map_take, List.map_drop, hmm]
 rcases h5 with ⟨rfl, rfl, rfl⟩ | ⟨a, rfl, rfl | ⟨b, off, rfl, _, hc⟩⟩
 ·refine ⟨_, _, run_copy_nil (P := Try.prog) w 34 34 ty 79 ⟨g, 0, none⟩ dLen dCap Try.underlying34 (by rw [size49]; rfl), ⟨0, rfl⟩, ?_, Only.refl _ _⟩
  simpa using hg
 ·exact fin a rfl (fun j hj => absurd hj (by omega))
 ·exact fin _ rfl (fun j hj => by rw [Addr.add_lit]; exact hc j hj)

theorem trim_fin {w w' : World} {xs : List Int} {len m : Nat} (hxl : xs.length = len) (hl : Limbs xs) (hm : tl xs len = m) (hb : len ≤ 35184372088832)
  (hr : Row w' w.heap.size (xs.take (min len m) ++ (List.replicate m (0 : Int)).drop (min len m))) (ho : Only w.heap.size (w.alloc (.cells (U (List.replicate m 0)) 79)) w') :
  Ending.returned (.slice (some ⟨w.heap.size, 0, none⟩) m m) = .returned (.slice (some ⟨w.heap.size, 0, none⟩) (tl xs len) (tl xs len)) ∧ Out w w' (some ⟨w.heap.size, 0, none⟩) (tl xs len) (tl xs len) (trim xs) ∧ w'.heap.size = w.heap.size + 1 := by
 have hb1 := tl_le xs len
 subst hm
 rw [Nat.min_eq_right hb1, List.drop_eq_nil_of_le (by simp), List.append_nil] at hr
 have e : trim xs = (xs.take (tl xs len)).take (tl xs len) := by unfold trim; rw [hxl, List.take_take, Nat.min_self]
 refine ⟨rfl, ?_, by rw [ho.size]; simp⟩
 rw [e]
 exact out_row ((below_alloc w _).trans (ho.below (Nat.le_refl _))) hr (hl.take _) (by rw [List.length_take]; omega) (Nat.le_refl _) (by omega)

theorem rd_alloc {w : World} {ad : Option Addr} {len cap : Nat} {zs : List Int} (h : Rd w ad len cap zs) (o : Obj) : Rd (w.alloc o) ad len cap zs := h.below (below_alloc w o)

set_option maxRecDepth 100000 in
set_option maxHeartbeats 1600000 in
/-- Trim: the limbs without the noughts at the end, in new memory -/
theorem trim_any {ad : Option Addr} {len cap : Nat} {xs : List Int} {w : World} (h : Rd w ad len cap xs) (hl : len ≤ 35184372088832) :
  Calls Try.prog 82 #[.slice ad len cap] w fun e w' => e = .returned (.slice (some ⟨w.heap.size, 0, none⟩) (tl xs len) (tl xs len)) ∧ Out w w' (some ⟨w.heap.size, 0, none⟩) (tl xs len) (tl xs len) (trim xs) ∧ w'.heap.size = w.heap.size + 1 := by
 have hxl := h.1
 have hlim := h.2.2.2.1
 have hmk0 := run_mk 0 (by decide)
 rw [show ((0 : Nat) : Int) = 0 from rfl] at hmk0
 have h0 := rd_alloc h (.cells (U (List.replicate 0 0)) 79)
 by_cases hlz : len = 0
 ·subst hlz
  go_enter Try.func82, Try.ntmps82
  go_wp2
  refine wp_loop_rounds 1 ?_
  rw [rounds_succ]
  obtain ⟨v', w', hrun, ⟨kk, rfl⟩, hr, ho⟩ := run_copy_rd (dLen := 0) (dCap := 0) (row_alloc w _) h0 (Nat.zero_le _) 3
  rw [show U (List.replicate 0 (0 : Int)) = U [] from rfl] at hrun
  go_wp2
  go_ret
  exact trim_fin hxl hlim rfl hl hr ho
 ·obtain ⟨b, off, rfl, g⟩ := h.some (by omega)
  go_enter Try.func82, Try.ntmps82
  go_wp2
  go_loop [3] (fun n => ∃ k : Nat, k ≤ len ∧ n = .int .i64 k ∧ Hid (tl xs len = tl xs k)) (fun n => (intOf n).toNat)
  case atStart => exact ⟨len, Nat.le_refl _, rfl, rfl⟩
  case round =>
   obtain ⟨k, hk, rfl, HT⟩ := hrel
   cases k with
   | zero =>
    obtain ⟨v', w', hrun, ⟨kk, rfl⟩, hr, ho⟩ := run_copy_rd (dLen := 0) (dCap := 0) (row_alloc w _) h0 (Nat.zero_le _) 3
    rw [show U (List.replicate 0 (0 : Int)) = U [] from rfl] at hrun
    go_wp2
    go_ret
    exact trim_fin hxl hlim HT.out hl hr ho
   | succ m =>
    have hcm := g m (by omega)
    by_cases hz0 : lz xs m = 0
    ·have HZ : Hid (lz xs m = 0) := hz0
     have hz1 : (lz xs m == 0) = true := by simp [hz0]
     clear hz0
     go_wp2
     go_round
     case rel => exact ⟨m, by omega, by go_num, by show _ = _; rw [HT.out]; conv => lhs; rw [tl, if_pos HZ.out]⟩
     case measure => simp [intOf]
    ·have HZ : Hid (¬ lz xs m = 0) := hz0
     have hz1 : (lz xs m == 0) = false := by simp [hz0]
     have hm1 : Hid (tl xs len = m + 1) := by show _ = _; rw [HT.out, tl, if_neg HZ.out]
     have hmk := run_mk' m (by omega)
     have h1 := rd_alloc h (.cells (U (List.replicate (m + 1) 0)) 79)
     clear hz0
     obtain ⟨v', w', hrun, ⟨kk, rfl⟩, hr, ho⟩ := run_copy_rd (dLen := m + 1) (dCap := m + 1) (row_alloc w (List.replicate (m + 1) 0)) h1 (by rw [List.length_replicate]; exact Nat.le_refl _) 3
     go_wp2
     go_ret
     exact trim_fin hxl hlim hm1.out hl hr ho
end Go.Proofs.Ytmiannlcfommpaa

namespace Go.Proofs.Ytmiannlcfommpaa
open Go.RowKit

end Go.Proofs.Ytmiannlcfommpaa

namespace Go.Proofs.Ytmiannlcfommpaa
open Go.RowKit

end Go.Proofs.Ytmiannlcfommpaa

namespace Go.Proofs.Ytmiannlcfommpaa
open Go.RowKit

end Go.Proofs.Ytmiannlcfommpaa
