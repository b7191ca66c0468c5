/-
 The walk of the law LexNames.
-/
import Derived.Test.YtcgdhbgjmapoeaaDoorP12
namespace Go.Proofs.YtcgdhbgjmapoeaaDoor
open Go.RowKit Go.Shelf

theorem name_lx {s : ByteArray} (h : nmB s = true) : Lxs s [⟨2, s, 0, 0⟩] 0 0 := by
 obtain ⟨h0, hc, hr, hk⟩ := nmB_iff.1 h
 have hl : s.size ≤ 24 := by
  unfold kd at hk
  split at hk
  ·cases hk
  ·by_cases h24 : 24 < s.size
   ·rw [if_pos h24] at hk; cases hk
   ·omega
 have hrow : RowAt s 0 s.size := ⟨by omega, fun j hj => by rw [Nat.zero_add]; exact hr.2.1 j hj, fun h => absurd h (by omega)⟩
 unfold Lxs
 rw [if_neg (by omega)]
 refine .word (k := 0) ⟨Nat.le_refl _, by omega, fun j h1 h2 => absurd h1 (by omega), fun _ => by rw [hc]; decide⟩ h0 ⟨rfl, ?_, ?_, .inr (.inl ⟨hc, hrow, hk.symm, (by show (2 : Int) ≠ 0; decide), rfl⟩)⟩ (.done ⟨?_, Nat.le_refl _, ?_, ?_⟩)
 ·show 0 + s.size ≤ s.size; omega
 ·show s = s.extract 0 (0 + s.size); rw [Nat.zero_add, extract_all]
 ·show 0 + s.size ≤ s.size; omega
 ·intro j h1 h2
  have : (0 + s.size) ≤ j := h1
  omega
 ·intro h; omega
theorem lx_name {s : ByteArray} {t : TD} (h : Lxs s [t] 0 0) (hk : t.kind = 2) (ht : t.text = s) : nmB s = true := by
 unfold Lxs at h
 split at h
 ·exact absurd h.1 (by simp)
 ·obtain ⟨k, hb, hkl, hw, hr⟩ := h.cons
  ·obtain ⟨a1, a2, a3, a4⟩ := hw
   rw [ht] at a2
   obtain rfl : k = 0 := by omega
   rcases a4 with ⟨_, _, _, h1, _⟩ | ⟨hc, hrow, h1, h2, _⟩ | ⟨_, _, _, _, h1, _⟩
   ·omega
   ·rw [ht] at hrow h1
    refine nmB_iff.2 ⟨by omega, hc, ⟨Nat.le_refl _, fun j hj => ?_, fun h => absurd h (by omega)⟩, by omega⟩
    have := hrow.2.1 j hj
    rwa [Nat.zero_add] at this
   ·omega

set_option maxRecDepth 100000 in
set_option maxHeartbeats 3200000 in
theorem lexNames_walk {s : ByteArray} {w : World} (hs : s.size ≤ 1048576) (hS : Sgn w) :
  Calls Tryd.prog 5 #[.string s] w fun e w' => e = .returned (.bool true) ∧ Below w.heap.size w w' := by
 go_enter Tryd.func5, Tryd.ntmps5
 go_wp2_with fail
 refine (isName_n s w (by omega)).mono ?_
 rintro e w' ⟨rfl, rfl⟩
 generalize hnm : nmB s = b at *
 replace hnm := hide hnm
 go_wp2_with fail
 refine (tokens_any s w (by omega) hS).mono ?_
 rintro e w1 (⟨xs, v, hx, rfl, hrow, hmg, -, hb⟩ | ⟨ts, x, p, hx, hx0, rfl, hb⟩)
 ·have ba := below_alloc' hb (.cells #[.int .i64 0, .int .i64 0] 25)
  have hS1 := hS.below ba
  clear hmg hb
  unfold misV
  by_cases hl : xs.length = 1
  ·match xs, hl with
   | [x], _ =>
    obtain ⟨g, cap, rfl, hg1, hg2, hc1, hc2, hcell⟩ := own_at hrow (by simp)
    have c0 := hcell 0 0 (by simp) (by decide)
    have c1 := hcell 0 1 (by simp) (by decide)
    simp [V5] at c0 c1
    clear hcell hrow
    simp only [List.length_cons, List.length_nil] at hc1 ⊢
    by_cases hk : x.d.kind = 2
    ·by_cases ht : x.d.text = s
     ·have hbt : b = true := by rw [← hnm.out]; exact lx_name hx hk ht
      subst hbt
      rw [hk] at c0
      rw [ht] at c1
      have hee : (s.toList == s.toList) = true := by simp
      clear hk ht hx
      go_wp2_with fail
      refine (refIsName_n s _ (by omega)).mono ?_
      rintro e w2 ⟨rfl, rfl⟩
      rw [hnm.out]
      go_wp2_with fail
      refine (known3_any _ hS1).mono ?_
      rintro e w2 ⟨rfl, hkn⟩
      go_wp2_with fail
      go_ret
      exact ⟨rfl, grow_step hkn ba⟩
     ·have hbt : b = false := by
       rw [← hnm.out, Bool.eq_false_iff]
       intro h
       have e := (lxs_unique hx (name_lx h)).1
       simp only [List.map_cons, List.map_nil, List.cons.injEq, and_true] at e
       exact ht (by rw [e])
      subst hbt
      rw [hk] at c0
      have hee : (x.d.text.toList == s.toList) = false := by
       rw [Bool.eq_false_iff]
       exact fun h => ht (toList_iff.1 h)
      clear hk ht hx
      generalize x.d.text = tx at *
      go_wp2_with fail
      refine (refIsName_n s _ (by omega)).mono ?_
      rintro e w2 ⟨rfl, rfl⟩
      rw [hnm.out]
      go_wp2_with fail
      refine (known3_any _ hS1).mono ?_
      rintro e w2 ⟨rfl, hkn⟩
      go_wp2_with fail
      go_ret
      exact ⟨rfl, grow_step hkn ba⟩
    ·have hbt : b = false := by
      rw [← hnm.out, Bool.eq_false_iff]
      intro h
      have e := (lxs_unique hx (name_lx h)).1
      simp only [List.map_cons, List.map_nil, List.cons.injEq, and_true] at e
      exact hk (by rw [e])
     subst hbt
     have hkb : (x.d.kind == 2) = false := by rw [beq_eq_false_iff_ne]; exact hk
     clear hk hx
     generalize x.d.kind = tk at *
     go_wp2_with fail
     refine (refIsName_n s _ (by omega)).mono ?_
     rintro e w2 ⟨rfl, rfl⟩
     rw [hnm.out]
     go_wp2_with fail
     refine (known3_any _ hS1).mono ?_
     rintro e w2 ⟨rfl, hkn⟩
     go_wp2_with fail
     go_ret
     exact ⟨rfl, grow_step hkn ba⟩
  ·have hbt : b = false := by
    rw [← hnm.out, Bool.eq_false_iff]
    intro h
    have e := congrArg List.length (lxs_unique hx (name_lx h)).1
    exact hl (by simpa using e)
   subst hbt
   obtain ⟨va, vc, rfl⟩ := own_slice2 hrow
   have hlb : ((xs.length : Int) == 1) = false := by rw [beq_eq_false_iff_ne]; omega
   generalize xs.length = n at *
   clear hl hx hrow
   go_wp2_with fail
   refine (refIsName_n s _ (by omega)).mono ?_
   rintro e w2 ⟨rfl, rfl⟩
   rw [hnm.out]
   go_wp2_with fail
   refine (known3_any _ hS1).mono ?_
   rintro e w2 ⟨rfl, hkn⟩
   go_wp2_with fail
   go_ret
   exact ⟨rfl, grow_step hkn ba⟩
 ·have ba := below_alloc' hb (.cells #[.int .i64 x, .int .i64 p] 25)
  have hS1 := hS.below ba
  have hbt : b = false := by
   rw [← hnm.out, Bool.eq_false_iff]
   intro h
   exact hx0 (lxs_unique hx (name_lx h)).2.1
  subst hbt
  have hxb : (x == 0) = false := by rw [beq_eq_false_iff_ne]; exact hx0
  clear hx hx0 hb
  unfold misV
  go_wp2_with fail
  refine (refIsName_n s _ (by omega)).mono ?_
  rintro e w2 ⟨rfl, rfl⟩
  rw [hnm.out]
  go_wp2_with fail
  refine (known3_any _ hS1).mono ?_
  rintro e w2 ⟨rfl, hkn⟩
  go_wp2_with fail
  go_ret
  exact ⟨rfl, grow_step hkn ba⟩
end Go.Proofs.YtcgdhbgjmapoeaaDoor
