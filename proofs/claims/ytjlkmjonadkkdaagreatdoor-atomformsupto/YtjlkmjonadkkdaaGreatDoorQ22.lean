/-
 Several texts in one: YP, YS.
-/
import Derived.Test.YtjlkmjonadkkdaaGreatDoorQ20
import Derived.Test.YtjlkmjonadkkdaaGreatDoorQ21
namespace Go.Proofs.YtjlkmjonadkkdaaGreatDoor
open Go.RowKit Go.Sort Go.Shelf
open Tm

open Classical in
theorem pn_px {w : World} {ad : Option Addr} {n : Nat} {ps : List (Int × Int)} {B : Nat} (h : Pn w ad n ps B) (hS : Std ps) : ∃ X, PX w ad n X B ∧ VX X := by
 obtain ⟨hn, h2⟩ := h
 rcases h2 with h2 | ⟨b, off, e, hlt, h2⟩
 ·exact ⟨(List.range n).map fun _ => (0, false, []), ⟨by simp, .inl h2⟩, fun i hi => by simp at hi; omega⟩
 ·have hx : ∀ i, ∃ x : Int × Bool × List Int, (h : i < ps.length) → x.1 = (ps[i]).1 ∧ okX x ∧ ∃ a l c, w.cell? ⟨b, off + i * 3, none⟩ = some (.int .i64 x.1) ∧ w.cell? ⟨b, off + i * 3 + 1, none⟩ = some (.bool x.2.1) ∧ w.cell? ⟨b, off + i * 3 + 2, none⟩ = some (.slice a l c) ∧ Rd w a l c x.2.2 ∧ l ≤ B ∧ I64 x.1 := fun i => by
   by_cases hi : i < ps.length
   ·obtain ⟨s, a, l, c, e0, e1, e2, hz, hl, hv⟩ := h2 i hi
    obtain ⟨xs, hr, hst, hval⟩ := hz.stands
    refine ⟨((ps[i]).1, s, xs), fun _ => ⟨rfl, ⟨by rw [hr.1]; exact hst, fun h0 => ?_⟩, a, l, c, e0, e1, e2, hr, hl, hv⟩⟩
    exact hS.2 _ (List.getElem_mem hi) (hval.symm.trans (sg_zero.2 h0))
   ·exact ⟨(0, false, []), fun h => absurd h hi⟩
  refine ⟨(List.range n).map fun i => Classical.choose (hx i), ⟨by simp, .inr ⟨b, off, e, hlt, fun i hi => ?_⟩⟩, fun i hi => ?_⟩
  ·rw [gx_range hi]
   exact (Classical.choose_spec (hx i) (by omega)).2.2
  ·have hi' : i < n := by simpa using hi
   rw [gx_range hi', gx_range (by omega)]
   have h3 := Classical.choose_spec (hx i) (by omega)
   refine ⟨h3.2.1, fun h0 => ?_⟩
   have h4 := Classical.choose_spec (hx (i - 1)) (by omega)
   rw [h3.1, h4.1]
   exact List.pairwise_iff_getElem.1 hS.1 (i - 1) i (by omega) (by omega) (by omega)
theorem TN.pn {w w' : World} {ad : Option Addr} {n : Nat} {s : Bool} {a : Option Addr} {l c : Nat} {rs : List Raw} {k : Int} {B : Nat} (h : TN w w' ad n s a l c rs k B) : Pn w' ad n (rs.map Raw.p) B := by
 obtain ⟨w1, h1, h2, ⟨h3, h4⟩, _⟩ := h
 refine ⟨by simpa using h3, ?_⟩
 rcases h4 with ⟨_, h4⟩ | ⟨g, e, hg, hlt, h4⟩
 ·exact .inl h4
 ·refine .inr ⟨g, 0, e, hlt, fun i hi => ?_⟩
  have hi' : i < rs.length := by simpa using hi
  obtain ⟨⟨c0, c1, c2⟩, _, hz, hl, hv⟩ := h4 i hi'
  rw [List.getElem_map, Nat.zero_add]
  exact ⟨_, _, _, _, c0, c1, c2, hz.below h2, hl, hv⟩
end Go.Proofs.YtjlkmjonadkkdaaGreatDoor

namespace Go.Proofs.YtjlkmjonadkkdaaGreatDoor
open Go.RowKit Go.Sort Go.Shelf
open Tm

theorem std_lays (ps : List (Int × Int)) : Std (nz (lays [] ps)) := std_nz (rise_lays ps (by simp [Rise]))
theorem csum_nzl (ps : List (Int × Int)) (v : Int) : csum (nz (lays [] ps)) v = csum ps v := by rw [csum_nz, csum_lays]; simp [csum]
theorem lays_eq {ps qs : List (Int × Int)} (h : Std qs) (hc : ∀ v, csum qs v = csum ps v) : qs = nz (lays [] ps) := std_unique h (std_lays ps) fun v => (hc v).trans (csum_nzl ps v).symm
theorem Pn.tb {w w' : World} {p : Nat} {ad0 : Option Addr} {n0 cp0 : Nat} {s0 : Bool} {a0 : Option Addr} {l0 c0 : Nat} {ad : Option Addr} {n : Nat} {ps : List (Int × Int)} {B : Nat} (h : Pn w ad n ps B) (y : TB w p ad0 n0 cp0 s0 a0 l0 c0) (hg : w.grownBy w' (some p)) : Pn w' ad n ps B := by
 refine ⟨h.1, ?_⟩
 rcases h.2 with h2 | ⟨b, off, e, hb, h2⟩
 ·exact .inl h2
 ·by_cases h0 : ps.length = 0
  ·exact .inl (h.1.symm.trans h0)
  ·refine .inr ⟨b, off, e, Nat.lt_of_lt_of_le hb hg.size, fun i hi => ?_⟩
   obtain ⟨s, a, l, c, e0, e1, e2, hz, hl⟩ := h2 i hi
   have hne : b ≠ p := by
    intro e
    subst e
    rw [cell_of_row w b _ _ _ (0, 0) y] at e0
    match hk : off + i * 3, e0 with
    | 0, e0 => simp at e0
    | 1, e0 => simp at e0
    | 2, e0 => simp at e0
    | k + 3, e0 => simp at e0
   have eb : w'.heap[b]? = w.heap[b]? := hg.block b hb (by simpa using hne)
   exact ⟨s, a, l, c, (World.cell?_of_block (a := ⟨b, off + i * 3, none⟩) eb).trans e0, (World.cell?_of_block (a := ⟨b, off + i * 3 + 1, none⟩) eb).trans e1, (World.cell?_of_block (a := ⟨b, off + i * 3 + 2, none⟩) eb).trans e2, hz.grownU hg (tb_noU y), hl⟩
theorem ordL_self (ps : List (Int × Int)) : ordL ps ps = 0 := by
 induction ps with
 | nil => rfl
 | cons p ps ih => simp [ordL, ordQ, cmpI_self, ih]
theorem ordT_self (ps : List (Int × Int)) (k : Int) : ordT ps ps k k = 0 := by simp [ordT, ordL_self, cmpI_self]

set_option maxRecDepth 100000 in
set_option maxHeartbeats 3200000 in
theorem same5_t {w : World} {ad : Option Addr} {n cp : Nat} {s : Bool} {a : Option Addr} {l c : Nat} {ps : List (Int × Int)} {k : Int} {ad2 : Option Addr} {n2 cp2 : Nat} {s2 : Bool} {a2 : Option Addr} {l2 c2 : Nat} {B : Nat} (hS : Std ps) (hP : Pn w ad n ps B) (hz : Zn w s a l c k) (hl : l ≤ B) (hP2 : Pn w ad2 n2 ps B) (hz2 : Zn w s2 a2 l2 c2 k) (hl2 : l2 ≤ B) (hB : B + n ≤ 268435456) (hB2 : B + n2 ≤ 268435456) :
  Calls Tryz.prog 59 #[.agg #[.slice ad n cp, .bool s, .slice a l c], .agg #[.slice ad2 n2 cp2, .bool s2, .slice a2 l2 c2]] w fun e w' => e = .returned (.bool true) ∧ Below w.heap.size w w' := by
 go_enter Tryz.func59, Tryz.ntmps59
 go_wp2_with fail
 have x := (tb_new w ad n cp s a l c).below (below_alloc _ (.cells #[.slice ad2 n2 cp2, .bool s2, .slice a2 l2 c2] 27))
 have y := tb_new (w.alloc (.cells #[.slice ad n cp, .bool s, .slice a l c] 27)) ad2 n2 cp2 s2 a2 l2 c2
 have b0 : Below w.heap.size w ((w.alloc (.cells #[.slice ad n cp, .bool s, .slice a l c] 27)).alloc (.cells #[.slice ad2 n2 cp2, .bool s2, .slice a2 l2 c2] 27)) := below_alloc' (below_alloc _ _) _
 rw [show (w.alloc (.cells #[.slice ad n cp, .bool s, .slice a l c] 27)).heap.size = w.heap.size + 1 from by simp] at y
 generalize (w.alloc (.cells #[.slice ad n cp, .bool s, .slice a l c] 27)).alloc (.cells #[.slice ad2 n2 cp2, .bool s2, .slice a2 l2 c2] 27) = wb at *
 replace hP := hP.below b0
 replace hz := hz.below b0
 replace hP2 := hP2.below b0
 replace hz2 := hz2.below b0
 generalize hp : w.heap.size = p at *
 replace b0 : Hid (Below w.heap.size w wb) := hp ▸ b0
 replace hp := hide hp
 generalize p + 1 = q at *
 obtain ⟨X, hX, hVX⟩ := pn_px hP hS
 obtain ⟨Y, hY, hVY⟩ := pn_px hP2 hS
 obtain ⟨xs, hr, hst, -⟩ := hz.stands
 obtain ⟨ys, hr2, hst2, -⟩ := hz2.stands
 replace hVX := hide hVX
 replace hVY := hide hVY
 refine (rvalid5_n hX hr hl (by omega) (by omega)).mono ?_
 rintro e w1 ⟨b1, rfl, hb1, k1⟩
 obtain rfl : b1 = true := hb1.2 ⟨hVX.out, hst⟩
 clear hb1
 replace k1 := hide k1
 have y0 := (y.below k1.out).c0
 have y1 := (y.below k1.out).c1
 have y2 := (y.below k1.out).c2
 go_wp2_with fail
 refine (rvalid5_n (hY.below k1.out) (hr2.below k1.out) hl2 (by omega) (by omega)).mono ?_
 rintro e w2 ⟨b2, rfl, hb2, k2⟩
 obtain rfl : b2 = true := hb2.2 ⟨hVY.out, hst2⟩
 clear hb2 y0 y1 y2
 replace k2 := hide (grow_step k2 k1.out)
 clear k1
 have x0 := (x.below k2.out).c0
 have x1 := (x.below k2.out).c1
 have x2 := (x.below k2.out).c2
 have y0 := (y.below k2.out).c0
 have y1 := (y.below k2.out).c1
 have y2 := (y.below k2.out).c2
 go_wp2_with fail
 refine (rorder5_n (hP.pr.below k2.out) (hz.zm.below k2.out) hl (hP2.pr.below k2.out) (hz2.zm.below k2.out) hl2 hB hB2).mono ?_
 rintro e w3 ⟨rfl, k3⟩
 rw [ordT_self]
 have kf : Hid (Below w.heap.size w w3) := b0.out.trans ((grow_step k3 k2.out).mono b0.out.size)
 clear k3
 go_wp2
 go_ret
 exact ⟨rfl, kf.out⟩

end Go.Proofs.YtjlkmjonadkkdaaGreatDoor
