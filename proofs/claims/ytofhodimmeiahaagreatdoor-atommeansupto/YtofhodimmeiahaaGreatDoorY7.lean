/-
  Layer 5: Norm, Add.
-/
import Derived.Test.YtofhodimmeiahaaGreatDoorY6
import Derived.Test.YtofhodimmeiahaaGreatDoorZ3
namespace Go.Proofs.YtofhodimmeiahaaGreatDoor
open Go.RowKit Go.Sort Go.Shelf
open Tm

theorem gather1 {W : World} {b : Nat} {ad : Option Addr} {n cp : Nat} {ps : List (Int × Int)} {B : Nat} {ty : TypeId} {fz : Nat × Nat} (hb : W.heap[b]? = some (.cells #[.slice ad n cp] ty fz)) (h : Pr W ad n ps B) (hB : B + n ≤ 536870912) :
    Calls Tryz.prog 41 #[.slice (some ⟨b, 0, none⟩) 1 1] W fun e w' => ∃ m, e = .returned (.map (some m)) ∧ GM w' m n (csum ps) (B + n) ∧ Below W.heap.size W w' ∧ W.heap.size ≤ m := by
  have hn := h.1
  have := gather_n (w := W) (b := b) (off := 0) (k := 1) (cap := 1) (pss := [ps]) (B := B) rfl (by decide) (Array.getElem?_eq_some_iff.1 hb).1 (fun j hj => by
    obtain rfl : j = 0 := by simp at hj; omega
    exact ⟨ad, n, cp, cell_of_row W b 0 _ _ fz hb, h⟩) (by simp [hn]; omega)
  simpa [hn] using this
theorem gather2 {W : World} {b : Nat} {ad ad2 : Option Addr} {n cp n2 cp2 : Nat} {ps qs : List (Int × Int)} {B : Nat} {ty : TypeId} {fz : Nat × Nat} (hb : W.heap[b]? = some (.cells #[.slice ad n cp, .slice ad2 n2 cp2] ty fz)) (h : Pr W ad n ps B) (h2 : Pr W ad2 n2 qs B) (hB : B + (n + n2) ≤ 536870912) :
    Calls Tryz.prog 41 #[.slice (some ⟨b, 0, none⟩) 2 2] W fun e w' => ∃ m, e = .returned (.map (some m)) ∧ GM w' m (n + n2) (csum (ps ++ qs)) (B + (n + n2)) ∧ Below W.heap.size W w' ∧ W.heap.size ≤ m := by
  have hn := h.1
  have hn2 := h2.1
  have := gather_n (w := W) (b := b) (off := 0) (k := 2) (cap := 2) (pss := [ps, qs]) (B := B) rfl (by decide) (Array.getElem?_eq_some_iff.1 hb).1 (fun j hj => by
    match j, hj with
    | 0, _ => exact ⟨ad, n, cp, cell_of_row W b 0 _ _ fz hb, h⟩
    | 1, _ => exact ⟨ad2, n2, cp2, cell_of_row W b 1 _ _ fz hb, h2⟩
    | j + 2, hj => simp at hj; omega) (by simp [hn, hn2]; omega)
  simpa [hn, hn2] using this

/-- a term as an answer: parts in a row of the call's own, numbers that were there when it was laid -/
def TN (w w' : World) (ad : Option Addr) (n : Nat) (s : Bool) (a : Option Addr) (l c : Nat) (rs : List Raw) (k : Int) (B : Nat) : Prop :=
  ∃ w1, Below w.heap.size w w1 ∧ Below w1.heap.size w1 w' ∧ Tr w1 w' ad n rs B ∧ Kn w' ad s a l c k ∧ l ≤ B
theorem TN.mono {w w' : World} {ad : Option Addr} {n : Nat} {s : Bool} {a : Option Addr} {l c : Nat} {rs : List Raw} {k : Int} {B B' : Nat} (h : TN w w' ad n s a l c rs k B) (hB : B ≤ B') : TN w w' ad n s a l c rs k B' := by
  obtain ⟨w1, h1, h2, ⟨h3, h4⟩, h5, h6⟩ := h
  refine ⟨w1, h1, h2, ⟨h3, ?_⟩, h5, Nat.le_trans h6 hB⟩
  rcases h4 with h4 | ⟨g, e, hg, hlt, h4⟩
  · exact .inl h4
  · exact .inr ⟨g, e, hg, hlt, fun i hi => ⟨(h4 i hi).1, (h4 i hi).2.1, (h4 i hi).2.2.1, Nat.le_trans (h4 i hi).2.2.2.1 hB, (h4 i hi).2.2.2.2⟩⟩
theorem TN.below {w w' : World} {ad : Option Addr} {n : Nat} {s : Bool} {a : Option Addr} {l c : Nat} {rs : List Raw} {k : Int} {B : Nat} (h : TN w w' ad n s a l c rs k B) : Below w.heap.size w w' := by
  obtain ⟨w1, h1, h2, _⟩ := h; exact grow_step h2 h1
theorem TN.zn {w w' : World} {ad : Option Addr} {n : Nat} {s : Bool} {a : Option Addr} {l c : Nat} {rs : List Raw} {k : Int} {B : Nat} (h : TN w w' ad n s a l c rs k B) : Zn w' s a l c k := by
  obtain ⟨w1, _, _, _, h1, _⟩ := h; exact h1.1
theorem TN.le {w w' : World} {ad : Option Addr} {n : Nat} {s : Bool} {a : Option Addr} {l c : Nat} {rs : List Raw} {k : Int} {B : Nat} (h : TN w w' ad n s a l c rs k B) : l ≤ B := by
  obtain ⟨w1, _, _, _, _, h1⟩ := h; exact h1
theorem TN.pr {w w' : World} {ad : Option Addr} {n : Nat} {s : Bool} {a : Option Addr} {l c : Nat} {rs : List Raw} {k : Int} {B : Nat} (h : TN w w' ad n s a l c rs k B) : Pr w' ad n (rs.map Raw.p) B := by
  obtain ⟨w1, h1, h2, ⟨h3, h4⟩, _⟩ := h
  refine ⟨by simpa using h3, ?_⟩
  rcases h4 with ⟨_, h4⟩ | ⟨g, e, hg, hlt, h4⟩
  · exact .inl h4
  · refine .inr ⟨g, 0, e, hlt, fun i hi => ?_⟩
    have hi' : i < rs.length := by simpa using hi
    obtain ⟨⟨c0, c1, c2⟩, _, hz, hl, hv⟩ := h4 i hi'
    rw [List.getElem_map, Nat.zero_add]
    exact ⟨_, _, _, _, c0, c1, c2, (hz.below h2).zm, hl, hv⟩
theorem Pr.i64 {w : World} {ad : Option Addr} {n : Nat} {ps : List (Int × Int)} {B : Nat} (h : Pr w ad n ps B) : ∀ p ∈ ps, I64 p.1 := by
  intro p hp
  obtain ⟨h1, h2⟩ := h
  obtain ⟨i, hi, rfl⟩ := List.getElem_of_mem hp
  rcases h2 with h2 | ⟨b, off, _, _, h2⟩
  · omega
  · obtain ⟨s, a, l, c, _, _, _, _, _, hv⟩ := h2 i hi
    exact hv
theorem csum_i64 {ps : List (Int × Int)} (h : ∀ p ∈ ps, I64 p.1) {v : Int} (hv : ¬ I64 v) : csum ps v = 0 := csum_none fun p hp e => hv (e ▸ h p hp)
theorem csum_all {ps qs : List (Int × Int)} (h1 : ∀ p ∈ ps, I64 p.1) (h2 : ∀ p ∈ qs, I64 p.1) (h : ∀ v, I64 v → csum ps v = csum qs v) : ∀ v, csum ps v = csum qs v := fun v => by
  by_cases hv : I64 v
  · exact h v hv
  · rw [csum_i64 h1 hv, csum_i64 h2 hv]

theorem tk3 {wb w' : World} {p r : Nat} {ad : Option Addr} {n cp : Nat} {s : Bool} {a : Option Addr} {l c : Nat} (x : TB wb p ad n cp s a l c) (hp : p < r) (k : Below r wb w') :
    w'.cell? ⟨p, 0, none⟩ = some (.slice ad n cp) ∧ w'.cell? ⟨p, 1, none⟩ = some (.bool s) ∧ w'.cell? ⟨p, 2, none⟩ = some (.slice a l c) ∧ Below r wb w' := by
  have x' : TB w' p ad n cp s a l c := (k.block p hp).trans x
  exact ⟨x'.c0, x'.c1, x'.c2, k⟩
theorem PQ.tn {w0 w w' : World} {g m : Nat} {rs : List Raw} {B : Nat} (h : PQ w0 w g rs B) (hg : w.grownBy w' (some m)) (hm : m < w0.heap.size) (hg0 : w0.heap.size ≤ g) : PQ w0 w' g rs B := h.grown hg (by omega)
theorem Tr.grown {w0 w w' : World} {m : Nat} {ad : Option Addr} {n : Nat} {rs : List Raw} {B : Nat} (h : Tr w0 w ad n rs B) (hg : w.grownBy w' (some m)) (hm : m < w0.heap.size) : Tr w0 w' ad n rs B := by
  obtain ⟨h3, h4⟩ := h
  refine ⟨h3, ?_⟩
  rcases h4 with h4 | ⟨g, e, hg0, h4⟩
  · exact .inl h4
  · exact .inr ⟨g, e, hg0, h4.tn hg hm hg0⟩
theorem Tr.mono {w0 w : World} {ad : Option Addr} {n : Nat} {rs : List Raw} {B B' : Nat} (h : Tr w0 w ad n rs B) (hB : B ≤ B') : Tr w0 w ad n rs B' := by
  obtain ⟨h3, h4⟩ := h
  refine ⟨h3, ?_⟩
  rcases h4 with h4 | ⟨g, e, hg, hlt, h4⟩
  · exact .inl h4
  · exact .inr ⟨g, e, hg, hlt, fun i hi => ⟨(h4 i hi).1, (h4 i hi).2.1, (h4 i hi).2.2.1, Nat.le_trans (h4 i hi).2.2.2.1 hB, (h4 i hi).2.2.2.2⟩⟩
/-- the world in the middle -/
theorem mid {wb W w2 : World} (_ : Below W.heap.size W w2) (h : Below wb.heap.size wb W) : Below wb.heap.size wb W := h
theorem raw_grown {w0 w0' : World} {m : Nat} {B : Nat} (hg : w0.grownBy w0' (some m)) (hm : NoU w0 m) {x : Raw} (h : x.ok w0 B) : x.ok w0' B := ⟨h.1.grownU hg hm, h.2.1, h.2.2⟩

theorem tset_below {w1 w2 : World} {r : Nat} {ad0 : Option Addr} {n0 cp0 : Nat} {s0 : Bool} {a0 : Option Addr} {l0 c0 : Nat} (k2 : Below w1.heap.size w1 w2) (y1 : TB w1 r ad0 n0 cp0 s0 a0 l0 c0) (ad' : Option Addr) (n' cp' : Nat) (s' : Bool) (a' : Option Addr) (l' c' : Nat) :
    Below (((w1.setCell ⟨r, 0, none⟩ (.slice ad' n' cp')).setCell ⟨r, 1, none⟩ (.bool s')).setCell ⟨r, 2, none⟩ (.slice a' l' c')).heap.size (((w1.setCell ⟨r, 0, none⟩ (.slice ad' n' cp')).setCell ⟨r, 1, none⟩ (.bool s')).setCell ⟨r, 2, none⟩ (.slice a' l' c')) (((w2.setCell ⟨r, 0, none⟩ (.slice ad' n' cp')).setCell ⟨r, 1, none⟩ (.bool s')).setCell ⟨r, 2, none⟩ (.slice a' l' c')) := by
  refine ⟨k2.os, k2.tape, k2.output, by simpa [World.setCell] using k2.size, fun k hk => ?_⟩
  by_cases e : k = r
  · subst e
    exact (tb_fin (y1.below k2) ad' n' cp' s' a' l' c').trans (tb_fin y1 ad' n' cp' s' a' l' c').symm
  · have hk1 : k < w1.heap.size := by simpa [World.setCell] using hk
    have hk2 : k < w2.heap.size := Nat.lt_of_lt_of_le hk1 k2.size
    rw [(tb_set w2 r _ _ _).block k hk2 (by simpa using e), (tb_set w1 r _ _ _).block k hk1 (by simpa using e)]
    exact k2.block k hk1
theorem tn_fin2 {w w1 w2 : World} {r : Nat} {ad0 : Option Addr} {n0 cp0 : Nat} {s0 : Bool} {a0 : Option Addr} {l0 c0 : Nat} {ad' : Option Addr} {n' : Nat} {s' : Bool} {a' : Option Addr} {l' c' : Nat} {rs : List Raw} {k : Int} {B : Nat} (b1 : Below w.heap.size w w1) (k2 : Below w1.heap.size w1 w2) (hT : Tr w1 w2 ad' n' rs B)
    (y1 : TB w1 r ad0 n0 cp0 s0 a0 l0 c0) (hr : w.heap.size ≤ r) (hz : Kn w2 ad' s' a' l' c' k) (hl : l' ≤ B) (cp' : Nat) :
    ∃ w1', w1'.heap.size = w1.heap.size ∧ Below w.heap.size w w1' ∧ Below w1'.heap.size w1' (((w2.setCell ⟨r, 0, none⟩ (.slice ad' n' cp')).setCell ⟨r, 1, none⟩ (.bool s')).setCell ⟨r, 2, none⟩ (.slice a' l' c')) ∧ Tr w1' (((w2.setCell ⟨r, 0, none⟩ (.slice ad' n' cp')).setCell ⟨r, 1, none⟩ (.bool s')).setCell ⟨r, 2, none⟩ (.slice a' l' c')) ad' n' rs B ∧ Kn (((w2.setCell ⟨r, 0, none⟩ (.slice ad' n' cp')).setCell ⟨r, 1, none⟩ (.bool s')).setCell ⟨r, 2, none⟩ (.slice a' l' c')) ad' s' a' l' c' k ∧ l' ≤ B := by
  refine ⟨((w1.setCell ⟨r, 0, none⟩ (.slice ad' n' cp')).setCell ⟨r, 1, none⟩ (.bool s')).setCell ⟨r, 2, none⟩ (.slice a' l' c'), by simp [World.setCell], below_grown b1 (tb_set _ _ _ _ _) hr, tset_below k2 y1 _ _ _ _ _ _ _, ?_, ⟨hz.1.grownU (tb_set _ _ _ _ _) (tb_noU (y1.below k2)), fun g e => fzn_grown (hz.2 g e) (tb_set _ _ _ _ _) (by
    rcases hT.2 with ⟨h, _⟩ | ⟨g', e', hg', _⟩
    · rw [h] at e; cases e
    · rw [e'] at e; cases e; have := y1.lt; omega)⟩, hl⟩
  obtain ⟨h3, h4⟩ := hT
  refine ⟨h3, ?_⟩
  rcases h4 with h4 | ⟨g, e, hg, h4⟩
  · exact .inl h4
  · have h5 := h4.grown (tb_set w2 r (.slice ad' n' cp') (.bool s') (.slice a' l' c')) (by have := y1.lt; omega)
    refine .inr ⟨g, e, by simpa [World.setCell] using hg, h5.1, fun i hi => ⟨(h5.2 i hi).1, (h5.2 i hi).2.1, raw_grown (tb_set _ _ _ _ _) (tb_noU y1) (h5.2 i hi).2.2⟩⟩

theorem tn_fin {w w1 w2 : World} {r : Nat} {ad0 : Option Addr} {n0 cp0 : Nat} {s0 : Bool} {a0 : Option Addr} {l0 c0 : Nat} {ad' : Option Addr} {n' : Nat} {s' : Bool} {a' : Option Addr} {l' c' : Nat} {rs : List Raw} {k : Int} {B : Nat} (b1 : Below w.heap.size w w1) (k2 : Below w1.heap.size w1 w2) (hT : Tr w1 w2 ad' n' rs B)
    (y1 : TB w1 r ad0 n0 cp0 s0 a0 l0 c0) (hr : w.heap.size ≤ r) (hz : Kn w2 ad' s' a' l' c' k) (hl : l' ≤ B) (cp' : Nat) :
    TN w (((w2.setCell ⟨r, 0, none⟩ (.slice ad' n' cp')).setCell ⟨r, 1, none⟩ (.bool s')).setCell ⟨r, 2, none⟩ (.slice a' l' c')) ad' n' s' a' l' c' rs k B := by
  obtain ⟨w1', _, h⟩ := tn_fin2 b1 k2 hT y1 hr hz hl cp'
  exact ⟨w1', h⟩

set_option maxRecDepth 100000 in
set_option maxHeartbeats 3200000 in
theorem tnorm_n {w : World} {ad : Option Addr} {n cp : Nat} {s : Bool} {a : Option Addr} {l c : Nat} {ps : List (Int × Int)} {k : Int} {B : Nat} (hP : Pr w ad n ps B) (hz : Zm w s a l c k) (hl : l ≤ B) (hB : B + n ≤ 536870912) :
    Calls Tryz.prog 54 #[.agg #[.slice ad n cp, .bool s, .slice a l c]] w fun e w' => ∃ ad' n' cp' s' a' l' c' rs, e = .returned (.agg #[.slice ad' n' cp', .bool s', .slice a' l' c']) ∧ TN w w' ad' n' s' a' l' c' rs k (B + n + 1) ∧ n' ≤ n ∧ Std (rs.map Raw.p) ∧ ∀ v, csum (rs.map Raw.p) v = csum ps v := by
  go_enter Tryz.func54, Tryz.ntmps54
  go_wp2_with fail
  have x := (tb_new w ad n cp s a l c).below (below_alloc _ (.cells #[.slice none 0 0, .bool false, .slice none 0 0] 27))
  have y := tb_new (w.alloc (.cells #[.slice ad n cp, .bool s, .slice a l c] 27)) none 0 0 false none 0 0
  have b0 : Below w.heap.size w ((w.alloc (.cells #[.slice ad n cp, .bool s, .slice a l c] 27)).alloc (.cells #[.slice none 0 0, .bool false, .slice none 0 0] 27)) := below_alloc' (below_alloc _ _) _
  rw [show (w.alloc (.cells #[.slice ad n cp, .bool s, .slice a l c] 27)).heap.size = w.heap.size + 1 from by simp] at y
  generalize (w.alloc (.cells #[.slice ad n cp, .bool s, .slice a l c] 27)).alloc (.cells #[.slice none 0 0, .bool false, .slice none 0 0] 27) = wb at *
  have hpr : w.heap.size < w.heap.size + 1 := by omega
  replace hP := hP.below b0
  replace hz := hz.below b0
  generalize hp : w.heap.size = p at *
  replace hp := hide hp
  generalize p + 1 = r at *
  have hrb := Nat.le_of_lt y.lt
  go_region_held3 (fun w' => w'.cell? ⟨p, 0, none⟩ = some (.slice ad n cp) ∧ w'.cell? ⟨p, 1, none⟩ = some (.bool s) ∧ w'.cell? ⟨p, 2, none⟩ = some (.slice a l c) ∧ Below r wb w')
    ((refine tk3 x hpr ?_; first | (refine Below.mono ?_ hrb; focus ((repeat' (first | with_reducible exact Below.refl _ _ | with_reducible assumption | with_reducible refine grow_step (by with_reducible assumption) ?_ | with_reducible refine grow_drew ?_ | with_reducible refine grow_alloc ?_ _ | with_reducible refine grow_drewN ?_ _)); done)) | (refine (((Below.mono ?_ hrb).setCell (Nat.le_refl _) _).setCell (Nat.le_refl _) _).setCell (Nat.le_refl _) _; focus ((repeat' (first | with_reducible exact Below.refl _ _ | with_reducible assumption | with_reducible refine grow_step (by with_reducible assumption) ?_ | with_reducible refine grow_drew ?_ | with_reducible refine grow_alloc ?_ _ | with_reducible refine grow_drewN ?_ _)); done))))
    (first | (go_at_call 41; refine (gather1 (by exact heap_alloc_new wb _) (Pr.below hP (by (repeat' (first | with_reducible exact Below.refl _ _ | with_reducible assumption | with_reducible refine grow_step (by with_reducible assumption) ?_ | with_reducible refine grow_drew ?_ | with_reducible refine grow_alloc ?_ _ | with_reducible refine grow_drewN ?_ _)))) hB).mono ?_; rintro e w1 ⟨m, rfl, hG, k1, hm⟩) | (go_at_call 61; refine (stand_p hG (Zm.below hz (by (repeat' (first | with_reducible exact Below.refl _ _ | with_reducible assumption | with_reducible refine grow_step (by with_reducible assumption) ?_ | with_reducible refine grow_drew ?_ | with_reducible refine grow_alloc ?_ _ | with_reducible refine grow_drewN ?_ _)))) (by omega) (by omega) (by omega)).mono ?_; rintro e w2 ⟨ad', n', cp', s', a', l', c', rs, rfl, hT, hn', hStd, hcs, hz2, hl2, k2⟩; have kW := mid k2 (show Below wb.heap.size wb _ by (repeat' (first | with_reducible exact Below.refl _ _ | with_reducible assumption | with_reducible refine grow_step (by with_reducible assumption) ?_ | with_reducible refine grow_drew ?_ | with_reducible refine grow_alloc ?_ _ | with_reducible refine grow_drewN ?_ _))); have y1' := TB.below y kW; have y' := y1'.below k2; have y0 := y'.c0; have y1 := y'.c1; have y2 := y'.c2; have y3 := y'.f 0; have y4 := y'.f 1; have y5 := y'.f 2))
  have hi1 := hP.i64
  clear hP hG
  go_wp2
  refine bodyPost_ret (results_cell_row rfl _ _ r 27 _ (0, 0) _ rfl (tb_fin y' ad' n' cp' s' a' l' c') Tryz.underlying27 rfl (by kernel_rfl)) rfl ?_
  have hTN : TN w _ ad' n' s' a' l' c' rs k (B + n + 1) := tn_fin (hp.out.symm ▸ b0.trans (kW.mono (Nat.le_of_lt (Nat.lt_trans hpr y.lt)))) k2 (hT.mono (by omega)) y1' (by have := hp.out; omega) hz2 (by omega) cp'
  exact ⟨ad', n', cp', s', a', l', c', rs, by simp, hTN, hn', hStd, csum_all hTN.pr.i64 hi1 hcs⟩
end Go.Proofs.YtofhodimmeiahaaGreatDoor
