/-
  Several texts in one: Y8, Y9, YA, YB, YC.
-/
import Derived.Test.YtjhhknfnaobmiaaGreatDoorJ22
import Derived.Test.YtjhhknfnaobmiaaGreatDoorZF1
namespace Go.Proofs.YtjhhknfnaobmiaaGreatDoor
open Go.RowKit Go.Sort Go.Shelf
open Tm

theorem tk6 {wb w' : World} {p p2 r : Nat} {ad : Option Addr} {n cp : Nat} {s : Bool} {a : Option Addr} {l c : Nat} {ad2 : Option Addr} {n2 cp2 : Nat} {s2 : Bool} {a2 : Option Addr} {l2 c2 : Nat} (x : TB wb p ad n cp s a l c) (x2 : TB wb p2 ad2 n2 cp2 s2 a2 l2 c2) (hp : p < r) (hp2 : p2 < r) (k : Below r wb w') :
  w'.cell? ⟨p, 0, none⟩ = some (.slice ad n cp) ∧ w'.cell? ⟨p, 1, none⟩ = some (.bool s) ∧ w'.cell? ⟨p, 2, none⟩ = some (.slice a l c) ∧ w'.cell? ⟨p2, 0, none⟩ = some (.slice ad2 n2 cp2) ∧ w'.cell? ⟨p2, 1, none⟩ = some (.bool s2) ∧ w'.cell? ⟨p2, 2, none⟩ = some (.slice a2 l2 c2) ∧ Below r wb w' := by
 have x' : TB w' p ad n cp s a l c := (k.block p hp).trans x
 have x2' : TB w' p2 ad2 n2 cp2 s2 a2 l2 c2 := (k.block p2 hp2).trans x2
 exact ⟨x'.c0, x'.c1, x'.c2, x2'.c0, x2'.c1, x2'.c2, k⟩

set_option maxRecDepth 100000 in
set_option maxHeartbeats 6400000 in
theorem tadd_n {w : World} {ad : Option Addr} {n cp : Nat} {s : Bool} {a : Option Addr} {l c : Nat} {ps : List (Int × Int)} {k : Int} {ad2 : Option Addr} {n2 cp2 : Nat} {s2 : Bool} {a2 : Option Addr} {l2 c2 : Nat} {qs : List (Int × Int)} {k2 : Int} {B : Nat} (hP : Pr w ad n ps B) (hz : Zm w s a l c k) (hl : l ≤ B) (hP2 : Pr w ad2 n2 qs B) (hz2 : Zm w s2 a2 l2 c2 k2) (hl2 : l2 ≤ B) (hB : B + (n + n2) ≤ 536870912) :
  Calls Tryz.prog 32 #[.agg #[.slice ad n cp, .bool s, .slice a l c], .agg #[.slice ad2 n2 cp2, .bool s2, .slice a2 l2 c2]] w fun e w' => ∃ ad' n' cp' s' a' l' c' rs, e = .returned (.agg #[.slice ad' n' cp', .bool s', .slice a' l' c']) ∧ TN w w' ad' n' s' a' l' c' rs (k + k2) (B + (n + n2) + 2) ∧ n' ≤ n + n2 ∧ Std (rs.map Raw.p) ∧ ∀ v, csum (rs.map Raw.p) v = csum (ps ++ qs) v := by
 go_enter Tryz.func32, Tryz.ntmps32
 go_wp2_with fail
 have x := ((tb_new w ad n cp s a l c).below (below_alloc _ (.cells #[.slice ad2 n2 cp2, .bool s2, .slice a2 l2 c2] 27))).below (below_alloc _ (.cells #[.slice none 0 0, .bool false, .slice none 0 0] 27))
 have x2 := (tb_new (w.alloc (.cells #[.slice ad n cp, .bool s, .slice a l c] 27)) ad2 n2 cp2 s2 a2 l2 c2).below (below_alloc _ (.cells #[.slice none 0 0, .bool false, .slice none 0 0] 27))
 have y := tb_new ((w.alloc (.cells #[.slice ad n cp, .bool s, .slice a l c] 27)).alloc (.cells #[.slice ad2 n2 cp2, .bool s2, .slice a2 l2 c2] 27)) none 0 0 false none 0 0
 have b0 : Below w.heap.size w (((w.alloc (.cells #[.slice ad n cp, .bool s, .slice a l c] 27)).alloc (.cells #[.slice ad2 n2 cp2, .bool s2, .slice a2 l2 c2] 27)).alloc (.cells #[.slice none 0 0, .bool false, .slice none 0 0] 27)) := below_alloc' (below_alloc' (below_alloc _ _) _) _
 rw [show (w.alloc (.cells #[.slice ad n cp, .bool s, .slice a l c] 27)).heap.size = w.heap.size + 1 from by simp] at x2
 rw [show ((w.alloc (.cells #[.slice ad n cp, .bool s, .slice a l c] 27)).alloc (.cells #[.slice ad2 n2 cp2, .bool s2, .slice a2 l2 c2] 27)).heap.size = w.heap.size + 1 + 1 from by simp] at y
 generalize ((w.alloc (.cells #[.slice ad n cp, .bool s, .slice a l c] 27)).alloc (.cells #[.slice ad2 n2 cp2, .bool s2, .slice a2 l2 c2] 27)).alloc (.cells #[.slice none 0 0, .bool false, .slice none 0 0] 27) = wb at *
 have hpr : w.heap.size < w.heap.size + 1 + 1 := by omega
 have hpr2 : w.heap.size + 1 < w.heap.size + 1 + 1 := by omega
 replace hP := hP.below b0
 replace hz := hz.below b0
 replace hP2 := hP2.below b0
 replace hz2 := hz2.below b0
 generalize hp : w.heap.size = p at *
 replace hp := hide hp
 generalize p + 1 = p2 at *
 generalize p2 + 1 = r at *
 have hrb := Nat.le_of_lt y.lt
 go_region_held3 (fun w' => w'.cell? ⟨p, 0, none⟩ = some (.slice ad n cp) ∧ w'.cell? ⟨p, 1, none⟩ = some (.bool s) ∧ w'.cell? ⟨p, 2, none⟩ = some (.slice a l c) ∧ w'.cell? ⟨p2, 0, none⟩ = some (.slice ad2 n2 cp2) ∧ w'.cell? ⟨p2, 1, none⟩ = some (.bool s2) ∧ w'.cell? ⟨p2, 2, none⟩ = some (.slice a2 l2 c2) ∧ Below r wb w')
  ((refine tk6 x x2 hpr hpr2 ?_; first | (refine Below.mono ?_ hrb; focus ((repeat' (first | with_reducible exact Below.refl _ _ | with_reducible assumption | with_reducible refine grow_step (by with_reducible assumption) ?_ | with_reducible refine grow_drew ?_ | with_reducible refine grow_alloc ?_ _ | with_reducible refine grow_drewN ?_ _)); done)) | (refine (((Below.mono ?_ hrb).setCell (Nat.le_refl _) _).setCell (Nat.le_refl _) _).setCell (Nat.le_refl _) _; focus ((repeat' (first | with_reducible exact Below.refl _ _ | with_reducible assumption | with_reducible refine grow_step (by with_reducible assumption) ?_ | with_reducible refine grow_drew ?_ | with_reducible refine grow_alloc ?_ _ | with_reducible refine grow_drewN ?_ _)); done))))
  (first | (go_at_call 81; refine (gather2 (by first | exact heap_alloc_new _ _ | exact (kA.block _ (by simp)).trans (heap_alloc_new wb _)) (Pr.below hP (by (repeat' (first | with_reducible exact Below.refl _ _ | with_reducible assumption | with_reducible refine grow_step (by with_reducible assumption) ?_ | with_reducible refine grow_drew ?_ | with_reducible refine grow_alloc ?_ _ | with_reducible refine grow_drewN ?_ _)))) (Pr.below hP2 (by (repeat' (first | with_reducible exact Below.refl _ _ | with_reducible assumption | with_reducible refine grow_step (by with_reducible assumption) ?_ | with_reducible refine grow_drew ?_ | with_reducible refine grow_alloc ?_ _ | with_reducible refine grow_drewN ?_ _)))) hB).mono ?_; rintro e w1 ⟨m, rfl, hG, k1, hm⟩) | (go_at_call 38; refine (zadd_n (Zm.below hz (by (repeat' (first | with_reducible exact Below.refl _ _ | with_reducible assumption | with_reducible refine grow_step (by with_reducible assumption) ?_ | with_reducible refine grow_drew ?_ | with_reducible refine grow_alloc ?_ _ | with_reducible refine grow_drewN ?_ _)))) (Zm.below hz2 (by (repeat' (first | with_reducible exact Below.refl _ _ | with_reducible assumption | with_reducible refine grow_step (by with_reducible assumption) ?_ | with_reducible refine grow_drew ?_ | with_reducible refine grow_alloc ?_ _ | with_reducible refine grow_drewN ?_ _)))) (by omega) (by omega)).mono ?_; rintro e wA ⟨sA, aA, lA, cA, rfl, hzA, kA, hlA⟩) | (go_at_call 80; refine (stand_p (GM.below hG (by (repeat' (first | with_reducible exact Below.refl _ _ | with_reducible assumption | with_reducible refine grow_step (by with_reducible assumption) ?_ | with_reducible refine grow_drew ?_ | with_reducible refine grow_alloc ?_ _ | with_reducible refine grow_drewN ?_ _)))) (Zm.below hzA.zm (by (repeat' (first | with_reducible exact Below.refl _ _ | with_reducible assumption | with_reducible refine grow_step (by with_reducible assumption) ?_ | with_reducible refine grow_drew ?_ | with_reducible refine grow_alloc ?_ _ | with_reducible refine grow_drewN ?_ _)))) (by omega) (by omega) (by omega)).mono ?_; rintro e w2 ⟨ad', n', cp', s', a', l', c', rs, rfl, hT, hn', hStd, hcs, hzR, hlR, kR⟩; have kW := mid kR (show Below wb.heap.size wb _ by (repeat' (first | with_reducible exact Below.refl _ _ | with_reducible assumption | with_reducible refine grow_step (by with_reducible assumption) ?_ | with_reducible refine grow_drew ?_ | with_reducible refine grow_alloc ?_ _ | with_reducible refine grow_drewN ?_ _))); have y1' := TB.below y kW; have y' := y1'.below kR; have y0 := y'.c0; have y1 := y'.c1; have y2 := y'.c2; have y3 := y'.f 0; have y4 := y'.f 1; have y5 := y'.f 2))
 all_goals
  have hi1 := hP.i64
  have hi2 := hP2.i64
  clear hP hP2 hG hz hz2
  go_wp2
  refine bodyPost_ret (results_cell_row rfl _ _ r 27 _ (0, 0) _ rfl (tb_fin y' ad' n' cp' s' a' l' c') Tryz.underlying27 rfl (by kernel_rfl)) rfl ?_
  have hTN : TN w _ ad' n' s' a' l' c' rs (k + k2) (B + (n + n2) + 2) := tn_fin (hp.out.symm ▸ b0.trans (kW.mono (Nat.le_of_lt (Nat.lt_trans hpr y.lt)))) kR (hT.mono (by omega)) y1' (by have := hp.out; omega) hzR (by omega) cp'
  exact ⟨ad', n', cp', s', a', l', c', rs, by simp, hTN, hn', hStd, csum_all hTN.pr.i64 (fun q hq => (List.mem_append.1 hq).elim (hi1 q) (hi2 q)) hcs⟩
end Go.Proofs.YtjhhknfnaobmiaaGreatDoor

namespace Go.Proofs.YtjhhknfnaobmiaaGreatDoor
open Go.RowKit Go.Sort Go.Shelf
open Tm

/-- a term as it stands, in new memory or not: parts, constant -/
def TW (w : World) (ad : Option Addr) (n : Nat) (s : Bool) (a : Option Addr) (l c : Nat) (ps : List (Int × Int)) (k : Int) (B : Nat) : Prop := Pr w ad n ps B ∧ Zm w s a l c k ∧ l ≤ B
theorem TN.tw {w w' : World} {ad : Option Addr} {n : Nat} {s : Bool} {a : Option Addr} {l c : Nat} {rs : List Raw} {k : Int} {B : Nat} (h : TN w w' ad n s a l c rs k B) : TW w' ad n s a l c (rs.map Raw.p) k B := ⟨h.pr, h.zn.zm, h.le⟩
theorem TW.below {w w' : World} {ad : Option Addr} {n : Nat} {s : Bool} {a : Option Addr} {l c : Nat} {ps : List (Int × Int)} {k : Int} {B : Nat} (h : TW w ad n s a l c ps k B) (hb : Below w.heap.size w w') : TW w' ad n s a l c ps k B := ⟨h.1.below hb, h.2.1.below hb, h.2.2⟩
theorem TW.mono {w : World} {ad : Option Addr} {n : Nat} {s : Bool} {a : Option Addr} {l c : Nat} {ps : List (Int × Int)} {k : Int} {B B' : Nat} (h : TW w ad n s a l c ps k B) (hB : B ≤ B') : TW w ad n s a l c ps k B' := ⟨h.1.mono hB, h.2.1, Nat.le_trans h.2.2 hB⟩

set_option maxRecDepth 100000 in
set_option maxHeartbeats 1600000 in
theorem tconst_n {w : World} {s : Bool} {a : Option Addr} {l c : Nat} {k : Int} {B : Nat} (hz : Zm w s a l c k) (hl : l + 1 ≤ B) (hB : B ≤ 1099511627776) :
  Calls Tryz.prog 33 #[.agg #[.bool s, .slice a l c]] w fun e w' => ∃ s' a' l' c', e = .returned (.agg #[.slice none 0 0, .bool s', .slice a' l' c']) ∧ TN w w' none 0 s' a' l' c' [] k B := by
 go_enter Tryz.func33, Tryz.ntmps33
 go_wp2_with fail
 have y := tb_new (w.alloc (.cells #[.bool s, .slice a l c] 24)) none 0 0 false none 0 0
 have b0 : Below w.heap.size w ((w.alloc (.cells #[.bool s, .slice a l c] 24)).alloc (.cells #[.slice none 0 0, .bool false, .slice none 0 0] 27)) := below_alloc' (below_alloc _ _) _
 rw [show (w.alloc (.cells #[.bool s, .slice a l c] 24)).heap.size = w.heap.size + 1 from by simp] at y
 generalize (w.alloc (.cells #[.bool s, .slice a l c] 24)).alloc (.cells #[.slice none 0 0, .bool false, .slice none 0 0] 27) = wb at *
 have hr : w.heap.size ≤ w.heap.size + 1 := by omega
 generalize w.heap.size + 1 = r at *
 refine (norm_n (hz.below b0) (by omega)).mono ?_
 rintro e w2 ⟨s', a', l', c', rfl, hz2, k2, hl2⟩
 have y' := y.below k2
 have y0 := y'.c0
 have y1 := y'.c1
 have y2 := y'.c2
 have y3 := y'.f 0
 have y4 := y'.f 1
 have y5 := y'.f 2
 have hTN := hide (tn_fin (rs := []) (ad' := none) (n' := 0) (B := B) (grow_step k2 b0) (Below.refl w2.heap.size w2) ⟨rfl, .inl ⟨rfl, rfl⟩⟩ y' hr ⟨hz2, fun g e => by cases e⟩ (by omega) 0)
 clear b0 k2
 go_wp2
 refine bodyPost_ret (results_cell_row rfl _ _ r 27 _ (0, 0) _ rfl (tb_fin y' none 0 0 s' a' l' c') Tryz.underlying27 rfl (by kernel_rfl)) rfl ?_
 exact ⟨s', a', l', c', by simp, hTN.out⟩

set_option maxRecDepth 100000 in
set_option maxHeartbeats 1600000 in
theorem tvar_n {w : World} {v : Int} {B : Nat} (hv : I64 v) (hB : 2 ≤ B) :
  Calls Tryz.prog 31 #[.int .i64 v] w fun e w' => ∃ ad' cp' rs, e = .returned (.agg #[.slice ad' 1 cp', .bool false, .slice none 0 0]) ∧ TN w w' ad' 1 false none 0 0 rs 0 B ∧ rs.map Raw.p = [(v, 1)] := by
 go_enter Tryz.func31, Tryz.ntmps31
 go_wp2_with fail
 have y := tb_new w none 0 0 false none 0 0
 have b0 : Below w.heap.size w (w.alloc (.cells #[.slice none 0 0, .bool false, .slice none 0 0] 27)) := below_alloc _ _
 generalize w.alloc (.cells #[.slice none 0 0, .bool false, .slice none 0 0] 27) = wb at *
 generalize hr : w.heap.size = r at *
 replace b0 : Below w.heap.size w wb := hr ▸ b0
 replace hr := hide hr
 refine (zof_n 1 (by decide) (by decide) wb).mono ?_
 rintro e w2 ⟨s', a', l', c', rfl, hz2, k2, hl2⟩
 have x3 := pb_new w2 v s' a' l' c'
 have k3 := below_alloc w2 (.cells #[.int .i64 v, .bool s', .slice a' l' c'] 71)
 have y1' := y.below k2
 have y' := y1'.below k3
 have y0 := y'.c0
 have y1 := y'.c1
 have y2 := y'.c2
 have y3 := y'.f 0
 have y4 := y'.f 1
 have y5 := y'.f 2
 have hT : Tr w2 (w2.alloc (.cells #[.int .i64 v, .bool s', .slice a' l' c'] 71)) (some ⟨w2.heap.size, 0, none⟩) 1 [⟨v, s', a', l', c', 1⟩] B := by
  refine ⟨rfl, .inr ⟨_, rfl, Nat.le_refl _, x3.lt, fun i hi => ?_⟩⟩
  obtain rfl : i = 0 := by simp at hi; omega
  exact ⟨⟨x3.c0, x3.c1, x3.c2⟩, ⟨frozen_of_row _ _ _ _ _ x3, frozen_of_row _ _ _ _ _ x3, frozen_of_row _ _ _ _ _ x3⟩, hz2, Nat.le_trans hl2 hB, hv⟩
 have hTN := hide (tn_fin (w := w) (grow_step k2 b0) k3 hT y1' (Nat.le_of_eq hr.out) ⟨zn_zero _, fun g e => by cases e; exact fzn_zero x3.lt⟩ (Nat.zero_le _) 1)
 clear b0 k2 k3 hT x3
 go_wp2
 refine bodyPost_ret (results_cell_row rfl _ _ r 27 _ (0, 0) _ rfl (tb_fin y' (some ⟨w2.heap.size, 0, none⟩) 1 1 false none 0 0) Tryz.underlying27 rfl (by kernel_rfl)) rfl ?_
 exact ⟨some ⟨w2.heap.size, 0, none⟩, 1, _, by simp, hTN.out, rfl⟩

end Go.Proofs.YtjhhknfnaobmiaaGreatDoor

namespace Go.Proofs.YtjhhknfnaobmiaaGreatDoor
open Go.RowKit Go.Sort Go.Shelf
open Tm

end Go.Proofs.YtjhhknfnaobmiaaGreatDoor

namespace Go.Proofs.YtjhhknfnaobmiaaGreatDoor
open Go.RowKit Go.Sort Go.Shelf
open Tm

/-- a row of parts of which the first t are scaled -/
def SR (w0 w : World) (g : Nat) (rs : List Raw) (k : Int) (t B B2 : Nat) : Prop :=
 g < w.heap.size ∧ w0.heap.size ≤ g ∧ Below w0.heap.size w0 w ∧ ∀ j (h : j < rs.length), ∃ x : Raw, (w.cell? ⟨g, j * 3, none⟩ = some (.int .i64 x.v) ∧ w.cell? ⟨g, j * 3 + 1, none⟩ = some (.bool x.s) ∧ w.cell? ⟨g, j * 3 + 2, none⟩ = some (.slice x.a x.l x.c)) ∧
  (w.frozen? ⟨g, j * 3 + 1, none⟩ = false ∧ w.frozen? ⟨g, j * 3 + 2, none⟩ = false) ∧ x.v = rs[j].v ∧ I64 x.v ∧ (j < t → Fresh.Zn (g + 1) w x.s x.a x.l x.c (k * rs[j].z) ∧ x.l ≤ B2) ∧ (t ≤ j → x = rs[j] ∧ x.ok w0 B)
theorem sr_start {w0 w : World} {g : Nat} {rs : List Raw} {k : Int} {B B2 : Nat} (h : PQ w0 w g rs B) (hg : w0.heap.size ≤ g) (hb : Below w0.heap.size w0 w) : SR w0 w g rs k 0 B B2 :=
 ⟨h.1, hg, hb, fun j hj => ⟨rs[j], (h.2 j hj).1, ⟨(h.2 j hj).2.1.2.1, (h.2 j hj).2.1.2.2⟩, rfl, (h.2 j hj).2.2.2.2, fun h => absurd h (by omega), fun _ => ⟨rfl, (h.2 j hj).2.2⟩⟩⟩
theorem SR.below {w0 w w' : World} {g : Nat} {rs : List Raw} {k : Int} {t B B2 : Nat} (h : SR w0 w g rs k t B B2) (hb : Below w.heap.size w w') : SR w0 w' g rs k t B B2 := by
 obtain ⟨h1, h2, h3, h4⟩ := h
 refine ⟨Nat.lt_of_lt_of_le h1 hb.size, h2, grow_step hb h3, fun j hj => ?_⟩
 obtain ⟨x, ⟨c0, c1, c2⟩, ⟨f1, f2⟩, e, hi, h5, h6⟩ := h4 j hj
 have eb : w'.heap[g]? = w.heap[g]? := hb.block g h1
 refine ⟨x, ⟨(World.cell?_of_block (a := ⟨g, j * 3, none⟩) eb).trans c0, (World.cell?_of_block (a := ⟨g, j * 3 + 1, none⟩) eb).trans c1, (World.cell?_of_block (a := ⟨g, j * 3 + 2, none⟩) eb).trans c2⟩, ⟨(World.frozen?_of_block (a := ⟨g, j * 3 + 1, none⟩) eb).trans f1, (World.frozen?_of_block (a := ⟨g, j * 3 + 2, none⟩) eb).trans f2⟩, e, hi, fun h => ⟨fzn_below (h5 h).1 hb, (h5 h).2⟩, h6⟩
theorem sr_step {w0 w : World} {g : Nat} {rs : List Raw} {k : Int} {t B B2 : Nat} (h : SR w0 w g rs k t B B2) (ht : t < rs.length) {s : Bool} {a : Option Addr} {l c : Nat} (hz : Fresh.Zn (g + 1) w s a l c (k * rs[t].z)) (hl : l ≤ B2) :
  SR w0 ((w.setCell ⟨g, t * 3 + 1, none⟩ (.bool s)).setCell ⟨g, t * 3 + 2, none⟩ (.slice a l c)) g rs k (t + 1) B B2 := by
 obtain ⟨h1, h2, h3, h4⟩ := h
 have hgr : w.grownBy ((w.setCell ⟨g, t * 3 + 1, none⟩ (.bool s)).setCell ⟨g, t * 3 + 2, none⟩ (.slice a l c)) (some g) := gb_trans (gb_set _ _ _ _) (gb_set _ _ _ _)
 refine ⟨Nat.lt_of_lt_of_le h1 hgr.size, h2, below_grown h3 hgr h2, fun j hj => ?_⟩
 obtain ⟨x, ⟨c0, c1, c2⟩, ⟨f1, f2⟩, e, hi, h5, h6⟩ := h4 j hj
 have hfz : ∀ o, ((w.setCell ⟨g, t * 3 + 1, none⟩ (.bool s)).setCell ⟨g, t * 3 + 2, none⟩ (.slice a l c)).frozen? ⟨g, o, none⟩ = w.frozen? ⟨g, o, none⟩ := fun o => by rw [World.frozen?_setCell, World.frozen?_setCell]
 by_cases e1 : j = t
 ·subst e1
  refine ⟨⟨x.v, s, a, l, c, k * rs[j].z⟩, ⟨?_, ?_, ?_⟩, ⟨(hfz _).trans f1, (hfz _).trans f2⟩, e, hi, fun _ => ⟨fzn_grown hz hgr (Nat.lt_succ_self _), hl⟩, fun h => absurd h (by omega)⟩
  ·rw [World.cell?_setCell_other _ _ _ _ (by simp), World.cell?_setCell_other _ _ _ _ (by simp)]; exact c0
  ·rw [World.cell?_setCell_other _ _ _ _ (by simp)]; exact World.cell?_setCell_same _ _ _ c1
  ·exact World.cell?_setCell_same _ _ _ (u := .slice x.a x.l x.c) (by rw [World.cell?_setCell_other _ _ _ _ (by simp)]; exact c2)
 ·have hc : ∀ o, j * 3 ≤ o → o < j * 3 + 3 → ((w.setCell ⟨g, t * 3 + 1, none⟩ (.bool s)).setCell ⟨g, t * 3 + 2, none⟩ (.slice a l c)).cell? ⟨g, o, none⟩ = w.cell? ⟨g, o, none⟩ := fun o ho1 ho2 => by
   rw [World.cell?_setCell_other _ _ _ _ (by simp <;> omega), World.cell?_setCell_other _ _ _ _ (by simp <;> omega)]
  refine ⟨x, ⟨(hc _ (by omega) (by omega)).trans c0, (hc _ (by omega) (by omega)).trans c1, (hc _ (by omega) (by omega)).trans c2⟩, ⟨(hfz _).trans f1, (hfz _).trans f2⟩, e, hi, fun h => ⟨fzn_grown (h5 (by omega)).1 hgr (Nat.lt_succ_self _), (h5 (by omega)).2⟩, fun h => h6 (by omega)⟩
/-- a row of parts, all scaled -/
def SE (w : World) (g : Nat) (rs : List Raw) (k : Int) (B2 : Nat) : Prop :=
 g < w.heap.size ∧ ∀ j (h : j < rs.length), ∃ x : Raw, (w.cell? ⟨g, j * 3, none⟩ = some (.int .i64 x.v) ∧ w.cell? ⟨g, j * 3 + 1, none⟩ = some (.bool x.s) ∧ w.cell? ⟨g, j * 3 + 2, none⟩ = some (.slice x.a x.l x.c)) ∧ x.v = rs[j].v ∧ I64 x.v ∧ Fresh.Zn (g + 1) w x.s x.a x.l x.c (k * rs[j].z) ∧ x.l ≤ B2
theorem sr_se {w0 w : World} {g : Nat} {rs : List Raw} {k : Int} {t B B2 : Nat} (h : SR w0 w g rs k t B B2) (ht : rs.length ≤ t) : SE w g rs k B2 := by
 obtain ⟨h1, h2, h3, h4⟩ := h
 refine ⟨h1, fun i hi => ?_⟩
 obtain ⟨x, c, _, e, hv, h5, _⟩ := h4 i hi
 exact ⟨x, c, e, hv, h5 (by omega)⟩
theorem SE.block {w w' : World} {g : Nat} {rs : List Raw} {k : Int} {B2 : Nat} (h : SE w g rs k B2) (hs : w.heap.size ≤ w'.heap.size) (eb : w'.heap[g]? = w.heap[g]?) (hz : ∀ s a l c z, Fresh.Zn (g + 1) w s a l c z → Fresh.Zn (g + 1) w' s a l c z) : SE w' g rs k B2 := by
 refine ⟨Nat.lt_of_lt_of_le h.1 hs, fun j hj => ?_⟩
 obtain ⟨x, ⟨c0, c1, c2⟩, e, hi, h5, h6⟩ := h.2 j hj
 exact ⟨x, ⟨(World.cell?_of_block (a := ⟨g, j * 3, none⟩) eb).trans c0, (World.cell?_of_block (a := ⟨g, j * 3 + 1, none⟩) eb).trans c1, (World.cell?_of_block (a := ⟨g, j * 3 + 2, none⟩) eb).trans c2⟩, e, hi, hz _ _ _ _ _ h5, h6⟩
theorem SE.below {w w' : World} {g : Nat} {rs : List Raw} {k : Int} {B2 : Nat} (h : SE w g rs k B2) (hb : Below w.heap.size w w') : SE w' g rs k B2 := h.block hb.size (hb.block g h.1) fun _ _ _ _ _ hz => fzn_below hz hb
theorem SE.grown {w w' : World} {g m : Nat} {rs : List Raw} {k : Int} {B2 : Nat} (h : SE w g rs k B2) (hg : w.grownBy w' (some m)) (hm : m < g) : SE w' g rs k B2 := h.block hg.size (hg.block g h.1 (by simp; omega)) fun _ _ _ _ _ hz => fzn_grown hz hg (by omega)
theorem se_pl {w : World} {g : Nat} {rs : List Raw} {k : Int} {B2 : Nat} (h : SE w g rs k B2) : PL w g 0 (scl k (rs.map Raw.p)) B2 := by
 refine ⟨h.1, fun i hi => ?_⟩
 have hi' : i < rs.length := by simpa [scl] using hi
 obtain ⟨x, ⟨c0, c1, c2⟩, e, hv, h5, h6⟩ := h.2 i hi'
 have e2 : (scl k (rs.map Raw.p))[i] = (rs[i].v, k * rs[i].z) := by simp [scl, Raw.p]
 rw [e2, Nat.zero_add]
 exact ⟨x.s, x.a, x.l, x.c, by rw [← e]; exact c0, c1, c2, h5.zn.zm, h6, by rw [← e]; exact hv⟩
theorem std_scl {k : Int} (hk : k ≠ 0) {ps : List (Int × Int)} (h : Std ps) : Std (scl k ps) := by
 refine ⟨?_, fun p hp => ?_⟩
 ·unfold scl; rw [List.pairwise_map]; exact h.1
 ·obtain ⟨q, hq, rfl⟩ := List.mem_map.1 hp
  exact Int.mul_ne_zero hk (h.2 q hq)
theorem kb_set (w : World) (b : Nat) (v1 v2 : Value) : w.grownBy ((w.setCell ⟨b, 1, none⟩ v1).setCell ⟨b, 2, none⟩ v2) (some b) := gb_trans (gb_set _ _ _ _) (gb_set _ _ _ _)
theorem tb_fin2 {w : World} {b : Nat} {ad : Option Addr} {n cp : Nat} {s : Bool} {a : Option Addr} {l c : Nat} (h : TB w b ad n cp s a l c) (s' : Bool) (a' : Option Addr) (l' c' : Nat) :
  TB ((w.setCell ⟨b, 1, none⟩ (.bool s')).setCell ⟨b, 2, none⟩ (.slice a' l' c')) b ad n cp s' a' l' c' :=
 heap_setCell_same _ b 2 _ _ _ (heap_setCell_same w b 1 _ _ _ h)

theorem sk {wb w' : World} {p q u g : Nat} {s : Bool} {a : Option Addr} {l c : Nat} {ad : Option Addr} {n cp : Nat} {s1 : Bool} {a1 : Option Addr} {l1 c1 : Nat} {v : Int} {s2 : Bool} {a2 : Option Addr} {l2 c2 : Nat} (x : ZB wb p s a l c) (y : TB wb q ad n cp s1 a1 l1 c1) (z : PB wb u v s2 a2 l2 c2) (hp : p ≠ g) (hq : q ≠ g) (hu : u ≠ g) (k : wb.grownBy w' (some g)) :
  w'.cell? ⟨p, 0, none⟩ = some (.bool s) ∧ w'.cell? ⟨p, 1, none⟩ = some (.slice a l c) ∧ w'.cell? ⟨q, 0, none⟩ = some (.slice ad n cp) ∧ w'.cell? ⟨u, 0, none⟩ = some (.int .i64 v) ∧ w'.cell? ⟨u, 1, none⟩ = some (.bool s2) ∧ w'.cell? ⟨u, 2, none⟩ = some (.slice a2 l2 c2) ∧ wb.grownBy w' (some g) := by
 have x' := x.grown k hp
 have y' := y.grown k hq
 have z' : PB w' u v s2 a2 l2 c2 := (k.block u z.lt (by simpa using hu)).trans z
 exact ⟨x'.c0, x'.c1, y'.c0, z'.c0, z'.c1, z'.c2, k⟩

set_option maxRecDepth 100000 in
set_option maxHeartbeats 3200000 in
theorem tscale_n {w : World} {s0 : Bool} {a0 : Option Addr} {l0 c0 : Nat} {k0 : Int} {ad : Option Addr} {n cp : Nat} {s : Bool} {a : Option Addr} {l c : Nat} {ps : List (Int × Int)} {k : Int} {B : Nat} (hk : Zm w s0 a0 l0 c0 k0) (hk0 : l0 ≤ 536870912) (hP : Pr w ad n ps B) (hz : Zm w s a l c k) (hl : l ≤ B) (hB : B + n ≤ 536870912) :
  Calls Tryz.prog 30 #[.agg #[.bool s0, .slice a0 l0 c0], .agg #[.slice ad n cp, .bool s, .slice a l c]] w fun e w' => ∃ ad' n' cp' s' a' l' c' qs, e = .returned (.agg #[.slice ad' n' cp', .bool s', .slice a' l' c']) ∧ TW w' ad' n' s' a' l' c' qs (k0 * k) (l0 + (B + n + 1)) ∧ n' ≤ n ∧ Std qs ∧ (∀ v, csum qs v = csum (scl k0 ps) v) ∧ Below w.heap.size w w' := by
 go_enter Tryz.func30, Tryz.ntmps30
 go_wp2_with fail
 have x := ((zb_new w s0 a0 l0 c0).below (below_alloc _ (.cells #[.slice ad n cp, .bool s, .slice a l c] 27))).below (below_alloc _ (.cells #[.slice none 0 0, .bool false, .slice none 0 0] 27))
 have q := (tb_new (w.alloc (.cells #[.bool s0, .slice a0 l0 c0] 24)) ad n cp s a l c).below (below_alloc _ (.cells #[.slice none 0 0, .bool false, .slice none 0 0] 27))
 have y := tb_new ((w.alloc (.cells #[.bool s0, .slice a0 l0 c0] 24)).alloc (.cells #[.slice ad n cp, .bool s, .slice a l c] 27)) none 0 0 false none 0 0
 have b0 : Below w.heap.size w (((w.alloc (.cells #[.bool s0, .slice a0 l0 c0] 24)).alloc (.cells #[.slice ad n cp, .bool s, .slice a l c] 27)).alloc (.cells #[.slice none 0 0, .bool false, .slice none 0 0] 27)) := below_alloc' (below_alloc' (below_alloc _ _) _) _
 rw [show (w.alloc (.cells #[.bool s0, .slice a0 l0 c0] 24)).heap.size = w.heap.size + 1 from by simp] at q
 rw [show ((w.alloc (.cells #[.bool s0, .slice a0 l0 c0] 24)).alloc (.cells #[.slice ad n cp, .bool s, .slice a l c] 27)).heap.size = w.heap.size + 1 + 1 from by simp] at y
 generalize ((w.alloc (.cells #[.bool s0, .slice a0 l0 c0] 24)).alloc (.cells #[.slice ad n cp, .bool s, .slice a l c] 27)).alloc (.cells #[.slice none 0 0, .bool false, .slice none 0 0] 27) = wb at *
 have hpr : w.heap.size < w.heap.size + 1 ∧ w.heap.size + 1 < w.heap.size + 1 + 1 := by omega
 replace hP := hP.below b0
 replace hz := hz.below b0
 have hkw := hide hk
 replace hk := hk.below b0
 generalize hp : w.heap.size = p at *
 replace b0 : Hid (Below w.heap.size w wb) := hp ▸ b0
 replace hp := hide hp
 generalize p + 1 = q0 at *
 generalize q0 + 1 = r at *
 replace hpr := hide hpr
 refine (zsign_n hk (by omega)).mono ?_
 rintro e w1 ⟨rfl, k1⟩
 have x1 := x.below k1
 have q1 := q.below k1
 have y1 := y.below k1
 replace hP := hP.below k1
 replace hz := hz.below k1
 replace hk := hk.below k1
 replace b0 := hide (grow_step k1 b0.out)
 clear k1 x q y
 by_cases h0 : k0 = 0
 ·have e0 : cmpI k0 0 = 0 := cmpI_eq h0
  rw [e0]
  have v0 := y1.c0
  have v1 := y1.c1
  have v2 := y1.c2
  have v3 := y1.f 0
  have v4 := y1.f 1
  have v5 := y1.f 2
  go_wp2
  refine bodyPost_ret (results_cell_row rfl _ _ r 27 _ (0, 0) _ rfl (tb_fin y1 none 0 0 false none 0 0) Tryz.underlying27 rfl (by kernel_rfl)) rfl ?_
  exact ⟨none, 0, 0, false, none, 0, 0, [], by simp, ⟨⟨rfl, .inl rfl⟩, by rw [h0, Int.zero_mul]; exact (zn_zero _).zm, Nat.zero_le _⟩, Nat.zero_le _, std_nil, fun v => by rw [csum_scl, h0, Int.zero_mul]; rfl, below_grown b0.out (tb_set _ _ _ _ _) (by have := hp.out; have := hpr.out; omega)⟩
 ·have e0 : cmpI k0 0 ≠ 0 := by unfold cmpI; split <;> (try split) <;> omega
  have t0 := q1.c0
  have t1 := q1.c1
  have t2 := q1.c2
  generalize cmpI k0 0 = sgn at *
  go_wp2_with fail
  refine (tnorm_n hP hz hl hB).mono ?_
  rintro e w2 ⟨ad1, n1, cp1, s1, a1, l1, c1, rs, rfl, hTN, hn1, hStd, hcs⟩
  obtain ⟨wm, bm1, bm2, hT, hzn, hln⟩ := hTN
  have bm : Below w1.heap.size w1 w2 := grow_step bm2 bm1
  have hwq : w.heap.size ≤ q0 := by have := hp.out; have := hpr.out; omega
  have hqw : q0 < wm.heap.size ∧ p < wm.heap.size ∧ r < wm.heap.size := ⟨(q1.below bm1).lt, (x1.below bm1).lt, (y1.below bm1).lt⟩
  have hTN := tn_fin2 (w := w) (grow_step bm1 b0.out) bm2 hT (q1.below bm1) hwq hzn hln cp1
  have q2 := q1.below bm
  have x3 := (x1.below bm).grown (tb_set w2 q0 (.slice ad1 n1 cp1) (.bool s1) (.slice a1 l1 c1)) (by have := hpr.out; omega)
  have y3 := (y1.below bm).grown (tb_set w2 q0 (.slice ad1 n1 cp1) (.bool s1) (.slice a1 l1 c1)) (by have := hpr.out; omega)
  have q3 := tb_fin q2 ad1 n1 cp1 s1 a1 l1 c1
  have d0 := q2.c0
  have d1 := q2.c1
  have d2 := q2.c2
  have d3 := q2.f 0
  have d4 := q2.f 1
  have d5 := q2.f 2
  have d6 := q3.c0
  clear hT hzn bm1 bm2 bm x1 y1 t0 t1 t2 q1 q2 b0 hk hP hz
  go_wp2_with fail
  generalize ((w2.setCell ⟨q0, 0, none⟩ (.slice ad1 n1 cp1)).setCell ⟨q0, 1, none⟩ (.bool s1)).setCell ⟨q0, 2, none⟩ (.slice a1 l1 c1) = wc at *
  clear d0 d1 d2 d3 d4 d5 d6
  obtain ⟨wn, hsz, bn1, bn2, hTr, hK, hln⟩ := hTN
  obtain ⟨hrn, hTr⟩ := hTr
  rw [← hsz] at hqw
  replace hqw := hide hqw
  clear hsz
  go_loopw [16] (fun i wr => ∃ t : Nat, t ≤ n1 ∧ i = .int .i64 t ∧ (n1 = 0 ∨ ∃ g, ad1 = some ⟨g, 0, none⟩ ∧ SR wn wr g rs k0 t (B + n + 1) (l0 + (B + n + 1))) ∧ ZB wr p s0 a0 l0 c0 ∧ TB wr q0 ad1 n1 cp1 s1 a1 l1 c1 ∧ TB wr r none 0 0 false none 0 0 ∧ Kn wr ad1 s1 a1 l1 c1 k ∧ Hid (Below w.heap.size w wr)) (fun i _ => n1 - (intOf i).toNat)
  case atStart =>
   refine ⟨0, Nat.zero_le _, rfl, ?_, x3, q3, y3, hK, grow_step bn2 bn1⟩
   rcases hTr with ⟨_, h⟩ | ⟨g, e, hg, hPQ⟩
   ·exact .inl h
   ·exact .inr ⟨g, e, sr_start hPQ hg bn2⟩
  case round =>
   obtain ⟨t, ht, rfl, hS, hx, hq, hy, hKr, kr⟩ := hrel
   by_cases htn : t < n1
   ·rcases hS with h | ⟨g, rfl, hS⟩
    ·omega
    ·obtain ⟨hgl, hg0, hbw, hrow⟩ := id hS
     obtain ⟨xr, ⟨e0, e1, e2⟩, ⟨f1, f2⟩, ev, hi, -, h6⟩ := hrow t (by omega)
     obtain ⟨hxr, hok⟩ := h6 (Nat.le_refl _)
     replace hxr := hide hxr
     clear h6 hrow ev
     have hls : l0 + xr.l ≤ l0 + (B + n + 1) := by have := hok.2.1; omega
     have hlx := hok.2.1
     go_wp2_with fail
     have z := pb_new wr xr.v xr.s xr.a xr.l xr.c
     have ka := below_alloc wr (.cells #[.int .i64 xr.v, .bool xr.s, .slice xr.a xr.l xr.c] 71)
     have hx2 := hx.below ka
     have hq2 := hq.below ka
     have hpg : p ≠ g := by have := hqw.out; omega
     have hqg : q0 ≠ g := by have := hqw.out; omega
     have hug : wr.heap.size ≠ g := by omega
     have hS2 := hS.below ka
     have hzx := ((hok.1.below hbw).below ka)
     have hk2 := (hkw.out.below kr.out).below ka
     replace hy := hy.below ka
     replace hKr := hide (And.intro (hKr.1.below ka) (fzn_below (hKr.2 g rfl) ka))
     replace kr := hide (grow_step ka kr.out)
     clear e0 e1 e2 f1 f2 hx hq hS hbw ka
     generalize wr.alloc (.cells #[.int .i64 xr.v, .bool xr.s, .slice xr.a xr.l xr.c] 71) = wb at *
     generalize wr.heap.size = u at *
     have kd := grow_drew (Below.refl wb.heap.size wb)
     have hd : wb.grownBy wb.drew (some g) := ⟨rfl, rfl, rfl, Nat.le_refl _, fun _ _ _ => rfl⟩
     have hgw : g + 1 ≤ wb.drew.heap.size := hS2.1
     go_region_held3 (fun w' => w'.cell? ⟨p, 0, none⟩ = some (.bool s0) ∧ w'.cell? ⟨p, 1, none⟩ = some (.slice a0 l0 c0) ∧ w'.cell? ⟨q0, 0, none⟩ = some (.slice (some ⟨g, 0, none⟩) n1 cp1) ∧ w'.cell? ⟨u, 0, none⟩ = some (.int .i64 xr.v) ∧ w'.cell? ⟨u, 1, none⟩ = some (.bool xr.s) ∧ w'.cell? ⟨u, 2, none⟩ = some (.slice xr.a xr.l xr.c) ∧ wb.grownBy w' (some g))
      ((refine sk hx2 hq2 z hpg hqg hug ?_; assumption))
      (first | (go_at_call 79; refine (Fresh.zmul_n (B := g + 1) (Fresh.zm_of (Zm.below hk2 kd) hgw) (Fresh.zm_of (Zm.below hzx.zm kd) hgw) (by omega) (by omega)).mono ?_; rintro e w3 ⟨s3, a3, l3, c3, rfl, hz3, k3, hl3⟩; have hS3 := (hS2.below kd).below k3; obtain ⟨xx, ⟨-, g1, g2⟩, ⟨g3, g4⟩, -⟩ := hS3.2.2.2 t (by omega); have hg1 := gb_below hd k3; have hg2 : wb.grownBy ((w3.setCell ⟨g, t * 3 + 1, none⟩ (.bool s3)).setCell ⟨g, t * 3 + 2, none⟩ (.slice a3 l3 c3)) (some g) := gb_trans (gb_trans hg1 (gb_set _ _ _ _)) (gb_set _ _ _ _)))
     have hS4 := sr_step hS3 (show t < rs.length by omega) (s := s3) (a := a3) (l := l3) (c := c3) (by have := hxr.out; rw [← this]; exact hz3) (by omega)
     have hx4 := hx2.grown hg2 hpg
     have hq4 := hq2.grown hg2 hqg
     have hy4 := hy.grown hg2 (by have := hqw.out; omega)
     have hK4 := fzn_grown hKr.out.2 hg2 (Nat.lt_succ_self _)
     have kr4 := hide (below_grown kr.out hg2 (by have := hqw.out; have := hp.out; have := bn1.size; omega))
     clear hg2 hg1 g1 g2 g3 g4 hS3 hz3 k3 hKr hd kd hgw hS2 hzx hk2
     go_wp2_with fail
     exact ⟨⟨t + 1, by omega, by go_num, .inr ⟨g, rfl, hS4⟩, hx4, hq4, hy4, ⟨hK4.zn, fun g' e => by cases e; exact hK4⟩, kr4⟩, by simp [intOf]; omega⟩
   ·obtain rfl : t = n1 := by omega
    have m0 := hx.c0
    have m1 := hx.c1
    have m2 := hq.c1
    have m3 := hq.c2
    go_wp2_with fail
    refine (zmul_n (hkw.out.below kr.out) hKr.1.zm (by omega) (by omega)).mono ?_
    rintro e w4 ⟨s4, a4, l4, c4, rfl, hz4, k4, hl4⟩
    have q4 := hq.below k4
    have y4 := hy.below k4
    have n0 := q4.c0
    have n2 := q4.c1
    have n3 := q4.c2
    have n4 := q4.f 1
    have n5 := q4.f 2
    have o0 := y4.c0
    have o1 := y4.c1
    have o2 := y4.c2
    have o3 := y4.f 0
    have o4 := y4.f 1
    have o5 := y4.f 2
    have hrq : r ≠ q0 := by have := hpr.out; omega
    have hqr : q0 ≠ r := by have := hpr.out; omega
    have q5 := tb_fin2 q4 s4 a4 l4 c4
    have g5 := kb_set w4 q0 (.bool s4) (.slice a4 l4 c4)
    have y5 := y4.grown g5 hrq
    have hz5 := (hz4.grownU g5 (tb_noU q4)).grownU (tb_set _ r (.slice ad1 t cp1) (.bool s4) (.slice a4 l4 c4)) (tb_noU y5)
    have kr5 := hide (below_grown (below_grown (grow_step k4 kr.out) g5 hwq) (tb_set _ r (.slice ad1 t cp1) (.bool s4) (.slice a4 l4 c4)) (by have := hp.out; have := hpr.out; omega))
    have hPr : Hid (Pr (((((w4.setCell ⟨q0, 1, none⟩ (.bool s4)).setCell ⟨q0, 2, none⟩ (.slice a4 l4 c4)).setCell ⟨r, 0, none⟩ (.slice ad1 t cp1)).setCell ⟨r, 1, none⟩ (.bool s4)).setCell ⟨r, 2, none⟩ (.slice a4 l4 c4)) ad1 t (scl k0 (rs.map Raw.p)) (l0 + (B + n + 1))) := by
     refine ⟨by simpa [scl] using hrn, ?_⟩
     rcases hS with h | ⟨g, rfl, hS⟩
     ·exact .inl h
     ·have hg0 := hS.2.1
      exact .inr ⟨g, 0, rfl, se_pl ((((sr_se hS (by omega)).below k4).grown g5 (by have := hqw.out; omega)).grown (tb_set _ _ _ _ _) (by have := hqw.out; omega))⟩
    clear hS k4 kr hKr hz4 hq hy hx m0 m1 m2 m3 bn1 bn2 hTr g5 q4 y4
    go_wp2
    refine bodyPost_ret (results_cell_row rfl _ _ r 27 _ (0, 0) _ rfl (tb_fin y5 ad1 t cp1 s4 a4 l4 c4) Tryz.underlying27 rfl (by kernel_rfl)) rfl ?_
    exact ⟨ad1, t, cp1, s4, a4, l4, c4, scl k0 (rs.map Raw.p), by simp, ⟨hPr.out, hz5.zm, by omega⟩, hn1, std_scl h0 hStd, fun v => by rw [csum_scl, csum_scl, hcs], kr5.out⟩
end Go.Proofs.YtjhhknfnaobmiaaGreatDoor

namespace Go.Proofs.YtjhhknfnaobmiaaGreatDoor
open Go.RowKit Go.Sort Go.Shelf
open Tm

end Go.Proofs.YtjhhknfnaobmiaaGreatDoor
