/-
 Layer 3: are words the document's?
-/
import Derived.Test.YtcgdhbgjmapoeaaDoorP13
import Derived.Deep.QuietTactic
import Derived.BigQuiet
import Derived.Deep.RegionHeld3
namespace Go.Proofs.YtcgdhbgjmapoeaaDoor
open Go.RowKit Go.Shelf

set_option maxRecDepth 100000 in
set_option maxHeartbeats 3200000 in
theorem sameInt_t {a1 a2 : Option Addr} {l c1 c2 : Nat} {zs : List Int} {w : World} (h1 : Rd w a1 l c1 zs) (h2 : Rd w a2 l c2 zs) :
  Calls Tryd.prog 22 #[.agg #[.bool false, .slice a1 l c1], .agg #[.bool false, .slice a2 l c2]] w fun e w' => e = .returned (.bool true) ∧ Below w.heap.size w w' := by
 have hll := h1.2.1
 have hlc := h1.2.2.1
 go_enter Tryd.func22, Tryd.ntmps22
 go_wp2_with fail
 have b0 : Below w.heap.size w ((w.alloc (.cells #[.bool false, .slice a1 l c1] 42)).alloc (.cells #[.bool false, .slice a2 l c2] 42)) := below_alloc' (below_alloc _ _) _
 have y1 := block_later (heap_alloc_new w (.cells #[.bool false, .slice a1 l c1] 42)) (below_alloc _ (.cells #[.bool false, .slice a2 l c2] 42))
 have y2 : ((w.alloc (.cells #[.bool false, .slice a1 l c1] 42)).alloc (.cells #[.bool false, .slice a2 l c2] 42)).heap[w.heap.size + 1]? = some (.cells #[.bool false, .slice a2 l c2] 42 (0, 0)) := by
  have := heap_alloc_new (w.alloc (.cells #[.bool false, .slice a1 l c1] 42)) (.cells #[.bool false, .slice a2 l c2] 42)
  simpa using this
 replace h1 := h1.below b0
 replace h2 := h2.below b0
 generalize (w.alloc (.cells #[.bool false, .slice a1 l c1] 42)).alloc (.cells #[.bool false, .slice a2 l c2] 42) = wb at *
 have p0 := cell_of_row wb _ 0 _ _ (0, 0) y1
 have p1 := cell_of_row wb _ 1 _ _ (0, 0) y1
 have q0 := cell_of_row wb _ 0 _ _ (0, 0) y2
 have q1 := cell_of_row wb _ 1 _ _ (0, 0) y2
 go_loopw [5] (fun i wr => ∃ (k n : Nat), k ≤ l ∧ i = .int .i64 k ∧ wr = wb.drewN n) (fun i _ => l - (intOf i).toNat)
 case atStart => exact ⟨0, 0, Nat.zero_le _, rfl, rfl⟩
 case round =>
  obtain ⟨k, n, hk, rfl, rfl⟩ := hrel
  by_cases hkl : k < l
  ·obtain ⟨_, _, _, hL, ⟨rfl, e, _⟩ | ⟨x1, rfl, e | ⟨b1, o1, rfl, hb1, hc1⟩⟩⟩ := h1
   ·omega
   ·omega
   obtain ⟨_, _, _, _, ⟨rfl, e, _⟩ | ⟨x2, rfl, e | ⟨b2, o2, rfl, hb2, hc2⟩⟩⟩ := h2
   ·omega
   ·omega
   have u1 := hc1 k hkl
   have u2 := hc2 k hkl
   have hbd := lz_bd hL k
   clear hc1 hc2
   generalize lz zs k = z at *
   go_wp2_with fail
   go_quiet (fail)
   go_wp2_with fail
   exact ⟨⟨k + 1, n + nq, by omega, by go_num, rfl⟩, by simp [intOf]; omega⟩
  ·obtain rfl : k = l := by omega
   go_wp2_with fail
   go_ret
   exact ⟨rfl, b0.trans (below_drewN _ _ _)⟩

theorem mg_zs {w1 W1 w2 W2 : World} {x y : TM} (h1 : Mg w1 W1 x) (h2 : Mg w2 W2 y) (hd : x.d = y.d) : x.zs = y.zs := canon_inj h1.2.1 h2.2.1 (by rw [h1.2.2, h2.2.2, hd])
set_option maxRecDepth 100000 in
set_option maxHeartbeats 3200000 in
theorem is3_t {x y : TM} {w1 w2 w : World} (h1 : Mg w1 w x) (h2 : Mg w2 w y) (hd : x.d = y.d) :
  Calls Tryd.prog 17 #[tokV x, tokV y] w fun e w' => e = .returned (.bool true) ∧ Below w.heap.size w w' := by
 have r1 := h1.1.rd
 have r2 := h2.1.rd
 have hz := mg_zs h1 h2 hd
 have hlen : x.len = y.len := by rw [← r1.1, ← r2.1, hz]
 rw [← hz] at r2
 rw [hlen] at r1
 obtain ⟨⟨k, t, num, p⟩, ad, len, cap, zs⟩ := x
 obtain ⟨d2, ad2, len2, cap2, zs2⟩ := y
 simp only at hd hlen hz r1 r2
 subst hd hlen hz
 clear h1 h2
 unfold tokV
 have hee : (t.toList == t.toList) = true := by simp
 go_enter Tryd.func17, Tryd.ntmps17
 go_wp2_with fail
 have b0 : Below w.heap.size w ((w.alloc (.cells #[.int .i64 k, .string t, .bool false, .slice ad len cap, .int .i64 p] 44)).alloc (.cells #[.int .i64 k, .string t, .bool false, .slice ad2 len cap2, .int .i64 p] 46)) := below_alloc' (below_alloc _ _) _
 refine (sameInt_t (r1.below b0) (r2.below b0)).mono ?_
 rintro e w3 ⟨rfl, hb⟩
 have y1 := (t5_new 44 w (.int .i64 k) (.string t) (.bool false) (.slice ad len cap) (.int .i64 p)).below (grow_step hb (below_alloc _ _))
 have y2 := (t5_new 46 (w.alloc (.cells #[.int .i64 k, .string t, .bool false, .slice ad len cap, .int .i64 p] 44)) (.int .i64 k) (.string t) (.bool false) (.slice ad2 len cap2) (.int .i64 p)).below hb
 rw [show (w.alloc (.cells #[.int .i64 k, .string t, .bool false, .slice ad len cap, .int .i64 p] 44)).heap.size = w.heap.size + 1 from by simp] at y2
 have c1 := y1.c4
 have c2 := y2.c4
 go_wp2_with fail
 go_ret
 exact ⟨rfl, grow_step hb b0⟩
end Go.Proofs.YtcgdhbgjmapoeaaDoor
