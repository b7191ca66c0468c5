/-
 Several texts in one: ZO, ZP, LZintDivisors.
-/
import Derived.Test.YtmlephkmbkiofaaGreatDoorR15
import Derived.Maps.AppendAt
import Derived.RangeFuncBox
import Derived.Test.YtmlephkmbkiofaaGreatDoorR06
import Derived.Deep.DeepCutAuto
import Derived.Deep.RegionHeld3
namespace Go.Proofs.YtmlephkmbkiofaaGreatDoor
open Go.RowKit

theorem infoZ : (Tryz.prog.info? 26).map (fun i => (i.zero, i.size, i.bytes)) = some (some (.agg #[.bool false, .slice none 0 0]), 2, 32) := by kernel_rfl
def V2 (s : Bool) (f l : Nat) : List Value := [.bool s, .slice (some ⟨f, 0, none⟩) l (l + 2)]
theorem v2_new (W : World) (s : Bool) (f l : Nat) : ∀ j u, (V2 s f l)[j]? = some u → (W.alloc (.cells (V2 s f l).toArray 26)).cell? ((⟨W.heap.size, 0, none⟩ : Addr).add j) = some u := by
 intro j u h
 rw [Addr.add_lit, cell_of_row _ _ (0 + j) _ _ (0, 0) (heap_alloc_new W _)]
 simpa using h
theorem v2_one (s : Bool) (f l : Nat) : ∀ u ∈ V2 s f l, u.oneCell' = true := by
 intro u h
 simp [V2] at h
 rcases h with rfl | rfl <;> rfl
def own2 (S : Nat → Bool) (F L : Nat → Nat) (k : Nat) : List Value := (List.range k).flatMap fun i => V2 (S i) (F i) (L i)
theorem flat_congr {f g : Nat → List Value} {l : List Nat} (h : ∀ a ∈ l, f a = g a) : l.flatMap f = l.flatMap g := by
 induction l with
 | nil => rfl
 | cons a l ih => rw [List.flatMap_cons, List.flatMap_cons, h a (by simp), ih (fun b hb => h b (by simp [hb]))]
theorem own2_succ (S : Nat → Bool) (F L : Nat → Nat) (k f : Nat) : own2 S (fun i => if i = k then f else F i) L (k + 1) = own2 S F L k ++ V2 (S k) f (L k) := by
 unfold own2
 rw [List.range_succ, List.flatMap_append]
 congr 1
 ·refine flat_congr fun i hi => ?_
  have : i ≠ k := by have := List.mem_range.1 hi; omega
  simp [this]
 ·simp
/-- so many numbers are lent -/
structure OW (w0 : World) (S : Nat → Bool) (L : Nat → Nat) (X : Nat → List Int) (v : Value) (k : Nat) (F : Nat → Nat) (W : World) : Prop where
 below : Below w0.heap.size w0 W
 row : W.ownsRow w0.heap.size 26 2 v k (own2 S F L k)
 rows : ∀ i, i < k → Row W (F i) (X i ++ [77, 78])
theorem OW.later {w0 : World} {S : Nat → Bool} {L : Nat → Nat} {X : Nat → List Int} {v : Value} {k : Nat} {F : Nat → Nat} {W W' : World} (h : OW w0 S L X v k F W) (hb : Below W.heap.size W W') : OW w0 S L X v k F W' := by
 refine ⟨grow_step hb h.below, ?_, fun i hi => (hb.block _ (Fresh.row_lt (h.rows i hi))).trans (h.rows i hi)⟩
 obtain ⟨h1, h2 | ⟨g, cap, cur, h3, h4, h5, h6⟩⟩ := h.row
 ·exact ⟨h1, .inl h2⟩
 ·exact ⟨h1, .inr ⟨g, cap, cur, h3, h4, (hb.block g (Array.getElem?_eq_some_iff.1 h5).1).trans h5, h6⟩⟩
theorem OW.append {w0 : World} {S : Nat → Bool} {L : Nat → Nat} {X : Nat → List Int} {v v' : Value} {k f : Nat} {F : Nat → Nat} {W w1 : World} {tmp : Obj} (h : OW w0 S L X v k F W) (hf : Row W f (X k ++ [77, 78]))
  (hown' : w1.ownsRow w0.heap.size 26 2 v' (k + 1) (own2 S F L k ++ V2 (S k) f (L k))) (hgrow : (W.alloc tmp).grownBy w1 v.ownBlock) :
  OW w0 S L X v' (k + 1) (fun i => if i = k then f else F i) w1 := by
 have hba : Below W.heap.size W (W.alloc tmp) := below_alloc _ _
 have hg : ∀ g, v.ownBlock = some g → w0.heap.size ≤ g ∧ ∃ cur, W.heap[g]? = some (.cells cur 26 (0, 0)) := by
  intro g hg
  obtain ⟨_, ⟨rfl, _⟩ | ⟨g', cap, cur, rfl, h4, h5, _⟩⟩ := h.row
  ·cases hg
  ·cases hg
   exact ⟨h4, cur, h5⟩
 have hrow : ∀ b zs, Row W b zs → Row w1 b zs := by
  intro b zs hr
  have hlt := Fresh.row_lt hr
  refine (hgrow.block b (by simpa using Nat.lt_succ_of_lt hlt) (fun e => ?_)).trans ((hba.block b hlt).trans hr)
  obtain ⟨_, cur, hc⟩ := hg b e.symm
  exact absurd (Obj.cells.inj (Option.some.inj ((show W.heap[b]? = _ from hr).symm.trans hc))).2.1 (by decide)
 refine ⟨(grow_step hba h.below).trans ((Below.refl w0.heap.size (W.alloc tmp)).grown hgrow (Nat.le_trans h.below.size hba.size) (fun g e => (hg g e).1)), ?_, ?_⟩
 ·rw [own2_succ]
  exact hown'
 ·intro i hi
  by_cases e : i = k
  ·subst e
   simpa using hrow _ _ hf
  ·simpa [e] using hrow _ _ (h.rows i (by omega))
end Go.Proofs.YtmlephkmbkiofaaGreatDoor

namespace Go.Proofs.YtmlephkmbkiofaaGreatDoor
open Go.RowKit

theorem own2_len (S : Nat → Bool) (F L : Nat → Nat) (n : Nat) : (own2 S F L n).length = n * 2 := by
 induction n with
 | zero => rfl
 | succ n ih =>
  unfold own2 at ih ⊢
  rw [List.range_succ, List.flatMap_append, List.length_append, ih]
  simp [V2]
  omega
theorem own2_get (S : Nat → Bool) (F L : Nat → Nat) {n i j : Nat} (hi : i < n) (hj : j < 2) : (own2 S F L n)[i * 2 + j]? = (V2 (S i) (F i) (L i))[j]? := by
 induction n with
 | zero => omega
 | succ n ih =>
  have e : own2 S F L (n + 1) = own2 S F L n ++ V2 (S n) (F n) (L n) := by
   unfold own2
   rw [List.range_succ, List.flatMap_append]
   simp
  have hlen := own2_len S F L n
  rw [e]
  by_cases h : i < n
  ·rw [List.getElem?_append_left (by omega)]
   exact ih h
  ·obtain rfl : i = n := by omega
   rw [List.getElem?_append_right (by omega), hlen]
   congr 1
   omega
theorem lent_nm {w : World} {b l : Nat} {xs : List Int} (h : Row w b (xs ++ [77, 78])) (hL : Limbs xs) (hl : xs.length = l) (hb : l ≤ 4294967296) : Nm w (some ⟨b, 0, none⟩) l (l + 2) (val xs) := by
 have hL2 : Limbs (xs ++ [77, 78]) := hL.append (fun z hz => by simp at hz; omega)
 have r := h.rd hL2 (off := 0) (len := l) (cap := l + 2) (by simp [hl]) (by omega) (by omega)
 rw [List.drop_zero, show (xs ++ [77, 78] : List Int).take l = xs by rw [← hl, List.take_left]] at r
 exact ⟨xs, r, rfl⟩
theorem ow_zl {w0 : World} {S : Nat → Bool} {L : Nat → Nat} {X : Nat → List Int} {M : Nat → Int} {v : Value} {n : Nat} {F : Nat → Nat} {W : World} (h : OW w0 S L X v n F W) {b : Nat} (hb : b < W.heap.size) (hL : ∀ i, i < n → Limbs (X i) ∧ (X i).length = L i ∧ L i ≤ 4294967296) (hM : ∀ i, i < n → M i = val (X i)) :
  ∃ adl b' cap, v = .slice adl n cap ∧ ZL W b' 0 n S (fun i => some ⟨F i, 0, none⟩) L (fun i => L i + 2) M ∧ (0 < n → adl = some ⟨b', 0, none⟩) ∧ n ≤ cap ∧ cap ≤ 9223372036854775807 := by
 obtain ⟨h1, ⟨rfl, rfl⟩ | ⟨g, cap, cur, rfl, h4, h5, h6, h7, h8, h9⟩⟩ := h.row
 ·exact ⟨none, b, 0, rfl, ⟨hb, fun i hi => absurd hi (by omega), fun i hi => absurd hi (by omega), fun i hi => absurd hi (by omega), fun i hi => absurd hi (by omega)⟩, fun h => absurd h (by omega), Nat.le_refl _, by decide⟩
 ·have hc : ∀ i j, i < n → j < 2 → W.cell? ⟨g, 0 + i * 2 + j, none⟩ = (V2 (S i) (F i) (L i))[j]? := by
   intro i j hi hj
   rw [cell_of_row W g (0 + i * 2 + j) _ _ (0, 0) h5, ← own2_get S F L hi hj, ← h9, List.getElem?_take_of_lt (by omega)]
   simp
  refine ⟨some ⟨g, 0, none⟩, g, cap, rfl, ⟨(Array.getElem?_eq_some_iff.1 h5).1, fun i hi => hc i 0 hi (by decide), fun i hi => hc i 1 hi (by decide), fun i hi => ?_, fun i hi => (hL i hi).2.2⟩, fun _ => rfl, h6, by unfold maxLen at h7; omega⟩
  rw [hM i hi]
  exact lent_nm (h.rows i hi) (hL i hi).1 (hL i hi).2.1 (hL i hi).2.2
end Go.Proofs.YtmlephkmbkiofaaGreatDoor

namespace Go.Proofs.YtmlephkmbkiofaaGreatDoor
open Go.RowKit

theorem row_later {w w' : World} {b : Nat} {xs : List Int} (h : Row w b xs) (hb : Below w.heap.size w w') : Row w' b xs := (hb.block b (Fresh.row_lt h)).trans h
theorem keep4 {w w' : World} {b1 b2 o1 o2 o3 o4 : Nat} {v1 v2 v3 v4 : Value} (l1 : b1 < w.heap.size) (l2 : b2 < w.heap.size) (h1 : w.cell? ⟨b1, o1, none⟩ = some v1) (h2 : w.cell? ⟨b1, o2, none⟩ = some v2) (h3 : w.cell? ⟨b2, o3, none⟩ = some v3) (h4 : w.cell? ⟨b2, o4, none⟩ = some v4) (h : Below w.heap.size w w') :
  w'.cell? ⟨b1, o1, none⟩ = some v1 ∧ w'.cell? ⟨b1, o2, none⟩ = some v2 ∧ w'.cell? ⟨b2, o3, none⟩ = some v3 ∧ w'.cell? ⟨b2, o4, none⟩ = some v4 :=
 ⟨(h.cell (p := ⟨b1, o1, none⟩) l1).trans h1, (h.cell (p := ⟨b1, o2, none⟩) l1).trans h2, (h.cell (p := ⟨b2, o3, none⟩) l2).trans h3, (h.cell (p := ⟨b2, o4, none⟩) l2).trans h4⟩

set_option maxRecDepth 100000 in
set_option maxHeartbeats 6400000 in
theorem zintDivisors_walk {adl : Option Addr} {w : World} {b off n cap : Nat} {S : Nat → Bool} {A : Nat → Option Addr} {L C : Nat → Nat} {M : Nat → Int} {X : Nat → List Int} (hl : ZL w b off n S A L C M) (hX : ∀ i, i < n → Rd w (A i) (L i) (C i) (X i)) (hM : ∀ i, i < n → M i = val (X i)) (had : 0 < n → adl = some ⟨b, off, none⟩) (hn : n ≤ 1048576) (hb : foldL 2 L n ≤ 4194304) (htab : Tab w) :
  Calls Tryz.prog 3 #[.slice adl n cap] w fun e w' => e = .returned (.bool true) ∧ Below w.heap.size w w' := by
 go_enter Tryz.func3, Tryz.ntmps3
 go_wp2_with fail
 refine (awake_any w htab).mono ?_
 rintro e w1 ⟨rfl, k1⟩
 have hl1 := hl.below k1
 have hX1 : ∀ i, i < n → Rd w1 (A i) (L i) (C i) (X i) := fun i hi => (hX i hi).below k1
 go_wp2_with fail
 go_loopw [4, 5] (fun t i wr => ∃ (k : Nat) (F : Nat → Nat), k ≤ n ∧ i = .int .i64 k ∧ OW w1 S L X t k F wr) (fun _ i _ => n - (intOf i).toNat)
 case atStart => exact ⟨0, fun _ => 0, Nat.zero_le _, rfl, ⟨Below.refl _ _, World.ownsRow_nil _ _ _ _, fun i hi => absurd hi (by omega)⟩⟩
 case round =>
  obtain ⟨k, F, hk, rfl, hO⟩ := hrel
  by_cases hkN : k < n
  ·obtain rfl := had (by omega)
   have q := hl1.below hO.below
   have e0 := q.c0 k hkN
   have e1 := q.c1 k hkN
   have hle := q.le k hkN
   have hkb : (k : Int) < n := by omega
   go_wp2_with fail
   refine (zlent_any ((hX1 k hkN).below hO.below) (by omega)).mono ?_
   rintro e w2 ⟨f, rfl, k2, _, hrow⟩
   have hO2 := hO.later k2
   obtain ⟨i0, hi, hz0, hz1, hz2⟩ := info_parts infoZ
   go_wp2_with (at_builtin; refine wpList_append_own_at _ rfl _ _ 22 rfl w1.heap.size 26 i0 _ 2 32 Tryz.underlying22 hi hz0 hz1 hz2 rfl (by decide) _ _ _ rfl (hO2.row.alloc _) ⟨w2.heap.size, 0, none⟩ 1 1 (V2 (S k) f (L k)) rfl rfl (v2_new _ _ _ _) (v2_one _ _ _) (by unfold maxLen; omega) (by omega) (by have := hO2.below.size; simp; omega) ?_; intro v' w3 hown' hgrow _ _)
   exact ⟨⟨k + 1, fun i => if i = k then f else F i, by omega, by go_num, hO2.append hrow hown' hgrow⟩, by simp [intOf]; omega⟩
  ·obtain rfl : k = n := by omega
   have hbw : b < wr.heap.size := Nat.lt_of_lt_of_le hl1.lt hO.below.size
   have hLs : ∀ i, i < k → Limbs (X i) ∧ (X i).length = L i ∧ L i ≤ 4294967296 := fun i hi => ⟨(hX1 i hi).2.2.2.1, (hX1 i hi).1, hl1.le i hi⟩
   obtain ⟨adw, bw, cw, rfl, hzl, hadw, hcw, hcw2⟩ := ow_zl hO hbw hLs hM
   have k0 := hO.below
   have hrows := hO.rows
   clear hO hLs hbw
   replace hl1 := hl1.below k0
   replace hX1 : ∀ i, i < k → Rd wr (A i) (L i) (C i) (X i) := fun i hi => (hX1 i hi).below k0
   replace k0 := k1.trans (k0.mono k1.size)
   go_wp2_with fail
   refine (zgcd_anyA hzl hadw (by omega) (by omega)).mono ?_
   rintro e w2 ⟨sg1, ag, lg, cg, rfl, hzg, k2, hlg⟩
   have k2a : Below wr.heap.size wr (w2.alloc (.cells #[.bool sg1, .slice ag lg cg] 26)) := below_alloc' k2 _
   have t6 := zb_new w2 sg1 ag lg cg
   replace hzg := hzg.below (below_alloc w2 (.cells #[.bool sg1, .slice ag lg cg] 26))
   go_wp2_with fail
   generalize w2.alloc (.cells #[.bool sg1, .slice ag lg cg] 26) = w3 at *
   generalize w2.heap.size = p6 at *
   clear k2
   refine (zlcm_anyA (hzl.below k2a) hadw (by omega) (by omega)).mono ?_
   rintro e w4 ⟨sm1, am, lm, cm, rfl, hzm, k4, hlm⟩
   have k4a : Below w3.heap.size w3 (w4.alloc (.cells #[.bool sm1, .slice am lm cm] 26)) := below_alloc' k4 _
   have t7 := zb_new w4 sm1 am lm cm
   replace hzm := hzm.below (below_alloc w4 (.cells #[.bool sm1, .slice am lm cm] 26))
   replace hzg := hzg.below k4a
   replace t6 := t6.below k4a
   go_wp2_with fail
   generalize w4.alloc (.cells #[.bool sm1, .slice am lm cm] 26) = wS at *
   generalize w4.heap.size = p7 at *
   have kS : Below wr.heap.size wr wS := grow_step k4a k2a
   clear k4 k4a k2a
   replace hzl := hzl.below kS
   replace hl1 := hl1.below kS
   replace hX1 : ∀ i, i < k → Rd wS (A i) (L i) (C i) (X i) := fun i hi => (hX1 i hi).below kS
   replace hrows : ∀ i, i < k → Row wS (F i) (X i ++ [77, 78]) := fun i hi => (kS.block _ (Fresh.row_lt (hrows i hi))).trans (hrows i hi)
   replace k0 := k0.trans (kS.mono k0.size)
   clear kS
   go_loopw [8] (fun i wq => ∃ j : Nat, j ≤ k ∧ i = .int .i64 j ∧ Below wS.heap.size wS wq) (fun i _ => k - (intOf i).toNat)
   case atStart => exact ⟨0, Nat.zero_le _, rfl, Below.refl _ _⟩
   case round =>
    obtain ⟨j, hj, rfl, kq⟩ := hrel
    by_cases hjk : j < k
    ·obtain rfl := had (by omega)
     obtain rfl := hadw (by omega)
     have q1 := hl1.below kq
     have q2 := hzl.below kq
     have d0 := q1.c0 j hjk
     have d1 := q1.c1 j hjk
     have d2 := q2.c0 j hjk
     have d3 := q2.c1 j hjk
     rw [Nat.zero_add] at d2 d3
     have hrj : Row wr (F j) (X j ++ [77, 78]) := (kq.block _ (Fresh.row_lt (hrows j hjk))).trans (hrows j hjk)
     have hxj := (hX1 j hjk).below kq
     have hle := hl1.le j hjk
     have hjb : (j : Int) < k := by omega
     have hj0 : (0 : Int) ≤ j := by omega
     have hlb1 := q1.lt
     have hlb2 := q2.lt
     go_wp2_with fail
     go_region_held3 (fun w' => w'.cell? ⟨b, off + j * 2, none⟩ = some (.bool (S j)) ∧ w'.cell? ⟨b, off + j * 2 + 1, none⟩ = some (.slice (A j) (L j) (C j)) ∧ w'.cell? ⟨bw, j * 2, none⟩ = some (.bool (S j)) ∧ w'.cell? ⟨bw, j * 2 + 1, none⟩ = some (.slice (some ⟨F j, 0, none⟩) (L j) (L j + 2)))
      ((refine keep4 hlb1 hlb2 d0 d1 d2 d3 ?_; (repeat' (first | with_reducible exact Below.refl _ _ | with_reducible assumption | with_reducible refine grow_step (by with_reducible assumption) ?_ | with_reducible refine grow_drew ?_ | with_reducible refine grow_alloc ?_ _ | with_reducible refine grow_drewN ?_ _))))
      (first | (go_at_call 9; refine (zstays_t (row_later hrj (by (repeat' (first | with_reducible exact Below.refl _ _ | with_reducible assumption | with_reducible refine grow_step (by with_reducible assumption) ?_ | with_reducible refine grow_drew ?_ | with_reducible refine grow_alloc ?_ _ | with_reducible refine grow_drewN ?_ _)))) (hxj.below (by (repeat' (first | with_reducible exact Below.refl _ _ | with_reducible assumption | with_reducible refine grow_step (by with_reducible assumption) ?_ | with_reducible refine grow_drew ?_ | with_reducible refine grow_alloc ?_ _ | with_reducible refine grow_drewN ?_ _)))) (by omega)).mono ?_; rintro e w' ⟨rfl, hg⟩))
     have kw : Below wr.heap.size wr w' := by (repeat' (first | with_reducible exact Below.refl _ _ | with_reducible assumption | with_reducible refine grow_step (by with_reducible assumption) ?_ | with_reducible refine grow_drew ?_ | with_reducible refine grow_alloc ?_ _ | with_reducible refine grow_drewN ?_ _))
     go_wp2_with fail
     exact ⟨⟨j + 1, by omega, by go_num, kq.trans (kw.mono kq.size)⟩, by simp [intOf]; omega⟩
    ·obtain rfl : j = k := by omega
     have h6 := t6.below kq
     have h7 := t7.below kq
     have hq1 := hl1.below kq
     have hzg' := hzg.below kq
     have hzm' := hzm.below kq
     have hf0 : foldL 0 L j ≤ foldL 2 L j := foldL_mono (by omega) L j
     go_wp2_with fail
     go_region_held3 (fun w' => w'.cell? ⟨p6, 0, none⟩ = some (.bool sg1) ∧ w'.cell? ⟨p6, 1, none⟩ = some (.slice ag lg cg) ∧ w'.cell? ⟨p7, 0, none⟩ = some (.bool sm1) ∧ w'.cell? ⟨p7, 1, none⟩ = some (.slice am lm cm) ∧ Below wr.heap.size wr w')
      ((refine zk2 h6 h7 ?_; (repeat' (first | with_reducible exact Below.refl _ _ | with_reducible assumption | with_reducible refine grow_step (by with_reducible assumption) ?_ | with_reducible refine grow_drew ?_ | with_reducible refine grow_alloc ?_ _ | with_reducible refine grow_drewN ?_ _))))
      (first | (go_at_call 11; refine (rgcd_listA (hq1.below (by (repeat' (first | with_reducible exact Below.refl _ _ | with_reducible assumption | with_reducible refine grow_step (by with_reducible assumption) ?_ | with_reducible refine grow_drew ?_ | with_reducible refine grow_alloc ?_ _ | with_reducible refine grow_drewN ?_ _)))) had (by omega) (by omega)).mono ?_; rintro e w' ⟨x1, x2, x3, x4, rfl, zr1, hg1, hx1⟩) | (go_at_call 12; refine (rlcm_listA (hq1.below (by (repeat' (first | with_reducible exact Below.refl _ _ | with_reducible assumption | with_reducible refine grow_step (by with_reducible assumption) ?_ | with_reducible refine grow_drew ?_ | with_reducible refine grow_alloc ?_ _ | with_reducible refine grow_drewN ?_ _)))) had (by omega) (by omega)).mono ?_; rintro e w' ⟨y1, y2, y3, y4, rfl, zr2, hg2, hy1⟩) | (go_at_call 10; first | (with_reducible refine (is_t (hzm'.below (by (repeat' (first | with_reducible exact Below.refl _ _ | with_reducible assumption | with_reducible refine grow_step (by with_reducible assumption) ?_ | with_reducible refine grow_drew ?_ | with_reducible refine grow_alloc ?_ _ | with_reducible refine grow_drewN ?_ _)))) zr2.zm (by omega) (by omega) rfl).mono ?_; rintro e w' ⟨rfl, hg4⟩) | (with_reducible refine (is_t (hzg'.below (by (repeat' (first | with_reducible exact Below.refl _ _ | with_reducible assumption | with_reducible refine grow_step (by with_reducible assumption) ?_ | with_reducible refine grow_drew ?_ | with_reducible refine grow_alloc ?_ _ | with_reducible refine grow_drewN ?_ _)))) zr1.zm (by omega) (by omega) rfl).mono ?_; rintro e w' ⟨rfl, hg3⟩)))
     have kf : Below wr.heap.size wr w' := by (repeat' (first | with_reducible exact Below.refl _ _ | with_reducible assumption | with_reducible refine grow_step (by with_reducible assumption) ?_ | with_reducible refine grow_drew ?_ | with_reducible refine grow_alloc ?_ _ | with_reducible refine grow_drewN ?_ _))
     go_wp2_with fail
     go_ret
     exact ⟨rfl, (k0.trans (kq.mono k0.size)).trans (kf.mono (Nat.le_trans k0.size kq.size))⟩
end Go.Proofs.YtmlephkmbkiofaaGreatDoor
