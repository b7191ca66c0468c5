/-
 Several texts in one: EI, ET, EV, EW, EX.
-/
import Derived.Test.YtjdghmkolkidpaaGreatDoorV38
import Derived.Test.YtjdghmkolkidpaaGreatDoorV22
namespace Go.Proofs.YtjdghmkolkidpaaGreatDoor
open Go.RowKit Go.Sort Go.Shelf
open Tm At
namespace Nt

/-- the atom of a variable -/
theorem form_v3 : formA 2 0 (nz (lays [] [(3, 1)])) 0 = .inl ⟨2, 0, [(3, 1)], 0⟩ := by rfl
theorem put_made {nn kk : Int} {s : St} {n : Nd} (h : ∀ i : Nat, s.L[i]? ≠ some n) (he : s.er = 0) (hl : ((nums n).any fun z => decide (kk < (lim z : Int))) = false) (hc : 1 ≤ nn - s.c) : put nn kk s n = (⟨s.L ++ [n], s.c + 1, 0⟩, some (s.L.length : Int)) := by
 unfold put
 rw [if_neg (spot_no (fun ⟨i, hi⟩ => h i hi))]
 have h7 : mstep nn kk s.c s.er (nums n) = (0, s.c + 1, 0) := by
  unfold mstep
  rw [if_neg (by simp [he]), if_neg (by rw [hl]; simp), if_neg (by omega)]
 rw [h7, if_pos rfl]
theorem lim_0 : lim 0 = 0 := by
 unfold lim
 rw [show (0 : Int).natAbs = 0 from rfl]
 rw [limbs_def]
 rfl
theorem lim_1 : lim 1 = 1 := by
 unfold lim
 rw [show (1 : Int).natAbs = 1 from rfl]
 rw [limbs_def]
 rw [dif_neg (by decide), show 1 / 4294967296 = 0 from rfl]
 rw [limbs_def]
 rfl
def nd1 : Nd := ⟨2, 0, [(3, 1)], 0, 0, []⟩
def nd2 : Nd := ⟨7, 0, [], 0, 3, [2]⟩
theorem not_in {L : List Nd} {n : Nd} (h : ∀ x ∈ L, x.kind ≠ n.kind) (i : Nat) : L[i]? ≠ some n := fun hi => h n (List.mem_of_getElem? hi) rfl
theorem put_1 : put 2000 8 st0 nd1 = (⟨[cst 0, cst 1, nd1], 1, 0⟩, some 2) := by
 rw [put_made (not_in (by simp [st0, cst, nd1])) rfl (by simp [nums, nd1, lim_0, lim_1]) (by decide)]
 rfl
theorem put_2 : put 2000 8 ⟨[cst 0, cst 1, nd1], 1, 0⟩ nd2 = (⟨[cst 0, cst 1, nd1, nd2], 2, 0⟩, some 3) := by
 rw [put_made (not_in (by simp [cst, nd1, nd2])) rfl (by simp [nums, nd2, lim_0]) (by decide)]
 rfl

set_option maxRecDepth 100000 in
set_option maxHeartbeats 3200000 in
theorem awake8_n {w : World} (htab : Tab w) : Calls Tryz.prog 7 #[] w fun e w' => e = .returned (.bool true) ∧ Below w.heap.size w w' := by
 have ht0 := hide htab
 replace ht0 := ht0.out
 go_enter Tryz.func7, Tryz.ntmps7
 go_wp2_with fail
 refine (new_ag htab).mono ?_
 rintro e w1 ⟨pa, pm, F, rfl, hG, hF, hpw, k1⟩
 have ht1 := htab.below k1
 replace hG := hide hG
 replace k1 := hide k1
 go_wp2_with fail
 refine (tvar_n (v := 3) (B := 2) (by unfold I64; decide) (by omega)).mono ?_
 rintro e w2 ⟨ad2, cp2, rs2, rfl, hT2, hr2⟩
 obtain ⟨hP2, hZ2, hl2⟩ := hT2.tw
 rw [hr2] at hP2
 have k2 := hT2.below
 replace hG := hide (hG.out.below k2)
 have ht2 := ht1.below k2
 replace k1 := hide (grow_step k2 k1.out)
 clear hT2 k2 ht1
 go_wp2_with fail
 refine (atom_ao (B := 2) hG.out (zn_zero _).zm (by omega) hP2 hZ2 hl2 (by omega) (by omega) ht2).mono ?_
 rintro e w3 ⟨x3, e3, rfl, -, hx3, F3, hG3, hF3, hB3⟩
 have hput : asked 2000 8 st0 (atomA 2 0 [(3, 1)] 0) = (⟨[cst 0, cst 1, nd1], 1, 0⟩, some 2) := by unfold atomA; rw [form_v3]; exact put_1
 rw [hput] at hx3 hG3
 clear hput
 obtain ⟨rfl, rfl⟩ := hx3 2 rfl
 have k3 : Hid (Below w.heap.size w w3) := hide (k1.out.trans (hB3.below (fun b hb => hb.elim (fun e => by omega) (hF b)) k1.out.size))
 replace hF3 : ∀ b, F3 b → w.heap.size ≤ b := fun b hb => by
  rcases hF3 b hb with h | h
  ·exact hF b h
  ·exact Nat.le_trans k1.out.size h
 have kc := below_alloc w3 (.cells #[.int .i64 2, .int .i64 2] 3)
 have hc0 : (w3.alloc (.cells #[.int .i64 2, .int .i64 2] 3)).heap[w3.heap.size]? = some (.cells #[.int .i64 2, .int .i64 2] 3 (0, 0)) := heap_alloc_new w3 _
 have hI3 : Hid (IL (w3.alloc (.cells #[.int .i64 2, .int .i64 2] 3)) (some ⟨w3.heap.size, 0, none⟩) ([2, 2] : List Int).length [2, 2]) := hide ⟨rfl, .inr ⟨w3.heap.size, 0, rfl, by simp, fun i hi => by
  obtain rfl | rfl : i = 0 ∨ i = 1 := by simp at hi; omega
  ·exact ⟨cell_of_row _ w3.heap.size 0 _ _ (0, 0) hc0, show I64 2 by unfold I64; decide⟩
  ·exact ⟨cell_of_row _ w3.heap.size 1 _ _ (0, 0) hc0, show I64 2 by unfold I64; decide⟩⟩⟩
 replace hG3 := hide (hG3.below kc)
 have ht3 := hide (htab.below (grow_step kc k3.out))
 replace k3 := hide (grow_step kc k3.out)
 clear hx3 hB3 hG hP2 hZ2 hl2 ht2 hr2 hF k1 kc hc0 htab
 go_wp2_with fail
 generalize w3.alloc (.cells #[.int .i64 2, .int .i64 2] 3) = w4 at *
 refine (join_ao (kd := 5) (kc := 2) (l := [2, 2]) (.inl rfl) hG3.out hI3.out (by simp) (by simp) ht3.out).mono ?_
 rintro e w5 ⟨x5, e5, rfl, -, hx5, F5, hG5, hF5, hB5⟩
 have hj : asked 2000 8 ⟨[cst 0, cst 1, nd1], 1, 0⟩ (joinA 5 [2, 2]) = (⟨[cst 0, cst 1, nd1], 1, 0⟩, some 2) := by unfold joinA; rw [ris_two]; rfl
 rw [hj] at hx5 hG5
 clear hj
 obtain ⟨rfl, rfl⟩ := hx5 2 rfl
 have k5 : Hid (Below w.heap.size w w5) := hide (k3.out.trans (hB5.below (fun b hb => hb.elim (fun e => by omega) (hF3 b)) k3.out.size))
 replace hF5 : ∀ b, F5 b → w.heap.size ≤ b := fun b hb => by
  rcases hF5 b hb with h | h
  ·exact hF3 b h
  ·exact Nat.le_trans k3.out.size h
 have ht5 := hide (ht0.below k5.out)
 replace hG5 := hide hG5
 clear hx5 hB5 hG3 hI3 hF3 k3 ht3
 go_wp2_with fail
 refine (bind_ao (kd := 7) (v := 3) (kid := 2) (.inl rfl) hG5.out (by unfold I64; decide) (by simp) ht5.out).mono ?_
 rintro e w6 ⟨x6, e6, rfl, -, hx6, F6, hG6, hF6, hB6⟩
 have hj : asked 2000 8 ⟨[cst 0, cst 1, nd1], 1, 0⟩ (.inr ⟨7, 0, [], 0, 3, [2]⟩) = (⟨[cst 0, cst 1, nd1, nd2], 2, 0⟩, some 3) := put_2
 rw [hj] at hx6 hG6
 clear hj
 obtain ⟨rfl, rfl⟩ := hx6 3 rfl
 have k6 : Hid (Below w.heap.size w w6) := hide (k5.out.trans (hB6.below (fun b hb => hb.elim (fun e => by omega) (hF5 b)) k5.out.size))
 have hlen := hide (len_ag hG6)
 clear hx6 hB6 hG5 hF5 hF6 k5 ht5 hG6
 go_wp2_with (go_at_call 10; refine hlen.out.mono ?_; rintro e w7 ⟨rfl, rfl⟩)
 go_ret
 exact ⟨rfl, k6.out⟩
end Nt
end Go.Proofs.YtjdghmkolkidpaaGreatDoor

namespace Go.Proofs.YtjdghmkolkidpaaGreatDoor
open Go.RowKit Go.Sort Go.Shelf
open Tm At
namespace Nt

/-- an arena, without its meter; all its blocks lie in F -/
structure AX (w : World) (pa pm : Nat) (L : List Nd) (F : Nat → Prop) : Prop where
 ar : ∃ C nv bm X D, AS w pa pm L C 2097152 nv bm X D ∧ ¬ FF pa bm nv C pm ∧ ∀ b, FF pa bm nv C b → F b
 fl : ∀ b, F b → b < w.heap.size
theorem AG.ax {w : World} {pa pm : Nat} {nn kk : Int} {s : St} {F : Nat → Prop} (h : AG w pa pm nn kk s F) : AX w pa pm s.L F := ⟨h.ar, h.fl⟩
theorem AX.len {w : World} {pa pm : Nat} {L : List Nd} {F : Nat → Prop} (h : AX w pa pm L F) : Calls Tryz.prog 10 #[.pointer (some ⟨pa, 0, none⟩)] w fun e w' => e = .returned (.int .i64 (L.length : Int)) ∧ w' = w := by
 obtain ⟨C, nv, bm, X, D, hA, hpm, hF⟩ := h.ar
 exact len8_n hA
theorem IL.but {w w' : World} {a : Option Addr} {n : Nat} {l : List Int} {G H : Nat → Prop} (h : IL w a n l) (hF : InF H a n) (k : ButF G w w') (hG : ∀ b, H b → b < w.heap.size → ¬ G b) : IL w' a n l :=
 il_move h k.size fun b off e h0 => k.block b (il_lt h e h0) (hG b (hF b off e h0) (il_lt h e h0))
set_option maxRecDepth 100000 in
theorem meter8_n {w : World} {pa pm : Nat} {L : List Nd} {F : Nat → Prop} (h : AX w pa pm L F) : Calls Tryz.prog 11 #[.pointer (some ⟨pa, 0, none⟩)] w fun e w' => e = .returned (.pointer (some ⟨pm, 0, none⟩)) ∧ w' = w := by
 obtain ⟨C, nv, bm, X, D, hA, -, -⟩ := h.ar
 have u0 : w.cell? ⟨pa, 0, none⟩ = some (.pointer (some ⟨pm, 0, none⟩)) := cell_of_row _ pa 0 _ _ (0, 0) hA.blk
 clear hA
 go_enter Tryz.func11, Tryz.ntmps11
 go_wp2
 go_ret
 exact ⟨rfl, rfl⟩
end Nt
end Go.Proofs.YtjdghmkolkidpaaGreatDoor

namespace Go.Proofs.YtjdghmkolkidpaaGreatDoor
open Go.RowKit Go.Sort Go.Shelf
open Tm At
namespace Nt

theorem flat_get : ∀ (X : List NR) (i j : Nat) (h : i < X.length), j < 8 → (X.flatMap NR.enc)[i * 8 + j]? = (X[i].enc)[j]?
 | [], i, j, h, _ => absurd h (Nat.not_lt_zero _)
 | x :: X, 0, j, _, hj => by
  rw [List.flatMap_cons, List.getElem?_append_left (by simp [NR.enc]; omega)]
  simp
 | x :: X, i + 1, j, h, hj => by
  rw [List.flatMap_cons, List.getElem?_append_right (by simp [NR.enc]; omega)]
  have h1 := flat_get X i j (by simpa using h) hj
  rw [show (i + 1) * 8 + j - x.enc.length = i * 8 + j by simp [NR.enc]; omega, h1]
  rfl
/-- the cells of an arena's node -/
theorem AS.cell {w : World} {pa pm : Nat} {L : List Nd} {C : Nat → Prop} {B : Nat} {nv : Value} {bm : Nat} {X : List NR} {D : DataW Value} (h : AS w pa pm L C B nv bm X D) {i : Nat} (hi : i < L.length) :
  ∃ g cap, nv = .slice (some ⟨g, 0, none⟩) L.length cap ∧ ∀ j, j < 8 → ∀ (hX : i < X.length), w.cell? ⟨g, i * 8 + j, none⟩ = (X[i].enc)[j]? := by
 rcases h.row.2 with ⟨_, h0⟩ | ⟨g, cap, cur, e1, _, e3, h1, h2, h3, h4⟩
 ·omega
 ·refine ⟨g, cap, e1, fun j hj hX => ?_⟩
  rw [cell_of_row w g (i * 8 + j) _ _ (0, 0) e3, ← flat_get X i j hX hj, ← h4, List.getElem?_take, if_pos (by omega)]
  simp
end Nt
end Go.Proofs.YtjdghmkolkidpaaGreatDoor

namespace Go.Proofs.YtjdghmkolkidpaaGreatDoor
open Go.RowKit Go.Sort Go.Shelf
open Tm At
namespace Nt

end Nt
end Go.Proofs.YtjdghmkolkidpaaGreatDoor

namespace Go.Proofs.YtjdghmkolkidpaaGreatDoor
open Go.RowKit Go.Sort Go.Shelf
open Tm At
namespace Nt

theorem map_exact {w : World} {P : Program} {k : TypeId} {R : Value → Option (DataW Value × List MemPlace)} {b n : Nat} {D : DataW Value} (h : w.ownsMap P k R b n D) : w.ownsMap P k R b (Maps.size D) D := by
 obtain ⟨es, clock, hb, F, hs, rfl⟩ := h
 refine ⟨es, clock, hb, F, ?_, rfl⟩
 simp [Maps.size, Go.length_sorted]
/-- the map has the numbers of the first n nodes, and of those from n + j on -/
def MapI (D : DataW Value) (L : List Nd) (n j : Nat) : Prop :=
 (∀ i (h : i < L.length) z, i < n ∨ n + j ≤ i → D.atKey (.string (txt L[i])) z = .lit (.int .i64 i)) ∧ ∀ t, (∀ i (h : i < L.length), i < n ∨ n + j ≤ i → txt L[i] ≠ t) → ∀ z, D.atKey (.string t) z = z
theorem mapI_start {D : DataW Value} {L : List Nd} {n : Nat} (h : MapIs D L) : MapI D L n 0 := by
 refine ⟨fun i hi z _ => h.1 i hi z, fun t ht z => h.2 t (fun x hx e => ?_) z⟩
 obtain ⟨i, hi, rfl⟩ := List.getElem_of_mem hx
 exact ht i hi (by omega) e
theorem mapI_end {D : DataW Value} {L : List Nd} {n j : Nat} (h : MapI D L n j) (hn : n ≤ L.length) (hj : L.length ≤ n + j) : MapIs D (L.take n) := by
 refine ⟨fun i hi z => ?_, fun t ht z => h.2 t (fun i hi hor e => ?_) z⟩
 ·have hi2 : i < n := by rw [List.length_take] at hi; omega
  rw [List.getElem_take]
  exact h.1 i (by omega) z (.inl hi2)
 ·have hi2 : i < n := by omega
  refine ht L[i] ?_ e
  exact List.mem_take_iff_getElem.2 ⟨i, by omega, rfl⟩
theorem mapI_del {D : DataW Value} {L : List Nd} {n j : Nat} (h : MapI D L n j) (hU : Uq L) (hi : n + j < L.length) : MapI (D.del (.string (txt L[n + j]))) L n (j + 1) := by
 have hne : ∀ i (h : i < L.length), i ≠ n + j → txt L[i] ≠ txt L[n + j] := fun i h hij e => by
  have e2 := txt_inj e
  exact hij (hU i (n + j) L[i] (List.getElem?_eq_getElem h) (by rw [e2]; exact List.getElem?_eq_getElem hi))
 refine ⟨fun i h9 z hor => ?_, fun t ht z => ?_⟩
 ·rw [Maps.atKey_del_other (fun e => hne i h9 (by omega) (Lit.string.inj e))]
  exact h.1 i h9 z (by omega)
 ·by_cases e : t = txt L[n + j]
  ·subst e
   exact Maps.atKey_del_same z
  ·rw [Maps.atKey_del_other (fun e2 => e (Lit.string.inj e2))]
   refine h.2 t (fun i h9 hor e3 => ?_) z
   by_cases hij : i = n + j
   ·subst hij
    exact e e3.symm
   ·exact ht i h9 (by omega) e3

theorem map_move {w w' : World} {P : Program} {k : TypeId} {R : Value → Option (DataW Value × List MemPlace)} {b n : Nat} {D : DataW Value} (h : w.ownsMap P k R b n D) (hb : w'.heap[b]? = w.heap[b]?) : w'.ownsMap P k R b n D := by
 obtain ⟨es, clock, hb2, h2⟩ := h
 exact ⟨es, clock, hb.trans hb2, h2⟩
theorem turned_block {w w' : World} {b : Nat} (h : w.mapTurned w' b) : ButF (fun c => c = b) w w' := by
 obtain ⟨es, clock, es', clock', _, rfl⟩ := h
 refine ⟨rfl, rfl, rfl, by simp [ChangeMaps.setBlock], fun i _ hn => ?_⟩
 simp only [ChangeMaps.setBlock]
 rw [Array.getElem?_setIfInBounds_ne (fun e => hn e.symm)]
theorem cells_other (g : Nat) {b : Nat} (hb : b ≠ g) : ∀ (vs : List Value) (o : Nat) (w : World), (w.setCells g o vs).heap[b]? = w.heap[b]?
 | [], _, _ => rfl
 | v :: r, o, w => (cells_other g hb r (o + 1) (w.setCell ⟨g, o, none⟩ v)).trans (heap_setCell_other w ⟨g, o, none⟩ b v hb)
theorem cells_rest (g : Nat) : ∀ (vs : List Value) (o : Nat) (w : World), (w.setCells g o vs).os = w.os ∧ (w.setCells g o vs).tape = w.tape ∧ (w.setCells g o vs).output = w.output
 | [], _, _ => ⟨rfl, rfl, rfl⟩
 | v :: r, o, w => by
  obtain ⟨h1, h2, h3⟩ := cells_rest g r (o + 1) (w.setCell ⟨g, o, none⟩ v)
  have gs := gb_set w g o v
  exact ⟨h1.trans gs.os, h2.trans gs.tape, h3.trans gs.output⟩
theorem cells_row (g : Nat) (t : TypeId) : ∀ (vs : List Value) (o : Nat) (w : World) (cur : Array Value), w.heap[g]? = some (.cells cur t (0, 0)) → ∃ cur', (w.setCells g o vs).heap[g]? = some (.cells cur' t (0, 0)) ∧ cur'.size = cur.size ∧ cur'.toList.take o = cur.toList.take o
 | [], _, w, cur, h => ⟨cur, h, rfl, rfl⟩
 | v :: r, o, w, cur, h => by
  obtain ⟨cur', h1, h2, h3⟩ := cells_row g t r (o + 1) (w.setCell ⟨g, o, none⟩ v) _ (heap_setCell_same w g o cur t v h)
  refine ⟨cur', h1, h2.trans (by simp), ?_⟩
  have h4 := congrArg (List.take o) h3
  rw [List.take_take, List.take_take, Nat.min_eq_left (by omega)] at h4
  rw [h4]
  apply List.ext_getElem?
  intro i
  rw [List.getElem?_take, List.getElem?_take]
  split
  ·have h5 : ¬ o = i := by omega
   simp [h5]
  ·rfl
theorem flat_take : ∀ (X : List NR) (n : Nat), (X.take n).flatMap NR.enc = (X.flatMap NR.enc).take (n * 8)
 | [], n => by simp
 | x :: X, 0 => by simp
 | x :: X, n + 1 => by
  rw [List.take_succ_cons, List.flatMap_cons, List.flatMap_cons, flat_take X n, List.take_append]
  have hl : x.enc.length = 8 := rfl
  rw [List.take_of_length_le (show x.enc.length ≤ (n + 1) * 8 by omega), hl, show (n + 1) * 8 - 8 = n * 8 by omega]
/-- the zero value of a node -/
def zN : Value := .agg #[.int .i64 0, .bool false, .slice none 0 0, .slice none 0 0, .bool false, .slice none 0 0, .int .i64 0, .slice none 0 0]
theorem zN_len (m : Nat) : (Builtin.zeroCells zN.cells m).toList.length = m * 8 := by
 simp [Builtin.zeroCells, zN, Value.cells]
theorem zN_one (m : Nat) : ∀ v ∈ (Builtin.zeroCells zN.cells m).toList, v.oneCell' = true := by
 intro v hv
 simp only [Builtin.zeroCells, zN, Value.cells, Array.toList_map, List.mem_map] at hv
 obtain ⟨i, _, rfl⟩ := hv
 have h8 : i % 8 < 8 := Nat.mod_lt _ (by decide)
 change (#[Value.int .i64 0, .bool false, .slice none 0 0, .slice none 0 0, .bool false, .slice none 0 0, .int .i64 0, .slice none 0 0][i % 8]!).oneCell' = true
 generalize i % 8 = q at h8
 match q, h8 with
 | 0, _ => rfl
 | 1, _ => rfl
 | 2, _ => rfl
 | 3, _ => rfl
 | 4, _ => rfl
 | 5, _ => rfl
 | 6, _ => rfl
 | 7, _ => rfl
theorem store_nodes {w : World} {g o m : Nat} {cur : Array Value} (hg : w.heap[g]? = some (.cells cur 39 (0, 0))) (hs : o + m * 8 ≤ cur.size) :
  (storeCells ⟨g, o, none⟩ (Builtin.zeroCells zN.cells m).toList).run Tryz.prog w = .ok () (w.setCells g o (Builtin.zeroCells zN.cells m).toList) := by
 have hst := run_storeCells_cells (P := Tryz.prog) g o (Builtin.zeroCells zN.cells m).toList 0 w (fun j hj => by rw [zN_len] at hj; rw [cell_of_row w g _ _ _ (0, 0) hg, Array.getElem?_eq_getElem (by omega)]; rfl) (fun j _ => frozen_of_row w g _ _ _ hg) (zN_one m)
 simpa only [Nat.add_zero] using hst
theorem clear_nodes {w : World} {g o k c : Nat} {cur : Array Value} (hg : w.heap[g]? = some (.cells cur 39 (0, 0))) (hs : o + (k + 1) * 8 ≤ cur.size) (ty : TypeId) :
  (Builtin.clear_ #[61] ty #[.slice (some ⟨g, o, none⟩) (k + 1) c]).run Tryz.prog w = .ok (.tuple #[]) (w.setCells g o (Builtin.zeroCells zN.cells (k + 1)).toList) := by
 have hst := store_nodes hg hs
 simp only [zN] at hst ⊢
 simp [Builtin.clear_, run_underlying Tryz.underlying61, hst]
theorem clear_none (w : World) (g o c : Nat) (ty : TypeId) : (Builtin.clear_ #[61] ty #[.slice (some ⟨g, o, none⟩) 0 c]).run Tryz.prog w = .ok (.tuple #[]) w := by
 simp [Builtin.clear_, run_underlying Tryz.underlying61]
/-- what Release answers -/
def RL (w w' : World) (e : Ending) (pa pm : Nat) (L : List Nd) (C : Nat → Prop) (nv : Value) (bm : Nat) (X : List NR) (n : Nat) : Prop :=
 e = .returned (.int .i64 0) ∧ ∃ nv' D', AS w' pa pm (L.take n) C 2097152 nv' bm (X.take n) D' ∧ nv'.ownBlock = nv.ownBlock ∧ ButF (fun b => b = pa ∨ b = bm ∨ nv.ownBlock = some b) w w'

theorem as_release {w wr wf : World} {pa pm : Nat} {L : List Nd} {C : Nat → Prop} {g cap bm : Nat} {X : List NR} {D Dj : DataW Value} {n : Nat} (hA : AS w pa pm L C 2097152 (.slice (some ⟨g, 0, none⟩) L.length cap) bm X D) (hn : n ≤ L.length) (hbr : ButF (fun b => b = bm) w wr) (hmap : wr.ownsMap Tryz.prog 9 (plainElem Tryz.prog 3) bm n Dj) (his : MapIs Dj (L.take n))
  (hpa : wf.heap[pa]? = some (.cells #[.pointer (some ⟨pm, 0, none⟩), .slice (some ⟨g, 0, none⟩) n cap, .map (some bm)] 63 (0, 0))) (hg : ∀ cur, wr.heap[g]? = some (.cells cur 39 (0, 0)) → ∃ cur', wf.heap[g]? = some (.cells cur' 39 (0, 0)) ∧ cur'.size = cur.size ∧ cur'.toList.take (n * 8) = cur.toList.take (n * 8))
  (ho : ∀ b, b ≠ pa → b ≠ g → wf.heap[b]? = wr.heap[b]?) (hs : wf.heap.size = wr.heap.size) (hr : wf.os = wr.os ∧ wf.tape = wr.tape ∧ wf.output = wr.output) : RL w wf (.returned (.int .i64 0)) pa pm L C (.slice (some ⟨g, 0, none⟩) L.length cap) bm X n := by
 have hgb : g ≠ bm := fun e => hA.bv (by rw [e]; rfl)
 have hgp : g ≠ pa := fun e => hA.av (by rw [e]; rfl)
 have hgl : g < w.heap.size := hA.fl (.inr (.inr (.inl rfl)))
 have hLn : (L.take n).length = n := by rw [List.length_take]; omega
 have hXl := hA.len
 refine ⟨rfl, _, Dj, ⟨hpa, by rw [List.length_take, List.length_take]; omega, ?_, fun i hi => ?_, ?_, his, fun b hb => Nat.lt_of_lt_of_le (hA.cl b hb) (by rw [hs]; exact hbr.size), hA.ca, hA.cm, fun g' e => hA.cv g' e⟩, rfl, ⟨hr.1.trans hbr.os, hr.2.1.trans hbr.tape, hr.2.2.trans hbr.output, by rw [hs]; exact hbr.size, fun b hb hnb => ?_⟩⟩
 ·rcases hA.row with ⟨h1, h2⟩
  rcases h2 with ⟨e9, _⟩ | ⟨g9, cap9, cur, e9, e1, e2, e3, e4, e5, e6⟩
  ·cases e9
  ·cases e9
   obtain ⟨cur', f1, f2, f3⟩ := hg cur ((hbr.block g hgl hgb).trans e2)
   rw [hLn]
   refine ⟨?_, .inr ⟨g, cap, cur', rfl, e1, f1, by omega, e4, by rw [f2]; exact e5, ?_⟩⟩
   ·rw [flat_take, List.length_take]
    omega
   ·rw [f3, flat_take, ← e6, List.take_take, Nat.min_eq_left (by omega)]
 ·have hi2 : i < L.length := by omega
  simp only [List.getElem_take]
  refine (hA.nodes i hi2).move (by rw [hs]; exact hbr.size) (fun b hb hl => ?_) fun _ h _ => h
  rw [ho b (fun e => hA.ca (e ▸ hb)) (fun e => hA.cv g rfl (e ▸ hb))]
  exact hbr.block b hl fun e => hA.cm (e ▸ hb)
 ·rw [hLn]
  exact map_move hmap (ho bm (fun e => hA.ab e.symm) fun e => hgb e.symm)
 ·rw [ho b (fun e => hnb (.inl e)) (fun e => hnb (.inr (.inr (by rw [e]; rfl))))]
  exact hbr.block b hb fun e => hnb (.inr (.inl e))

set_option maxRecDepth 100000 in
set_option maxHeartbeats 3200000 in
theorem release8_n {w : World} {pa pm : Nat} {L : List Nd} {C : Nat → Prop} {nv : Value} {bm : Nat} {X : List NR} {D : DataW Value} {n : Nat} (hA : AS w pa pm L C 2097152 nv bm X D) (hn2 : 2 ≤ n) (hn : n ≤ L.length) (hL : L.length ≤ 1048576) (htab : ∀ w', ButF (fun b => b = pa ∨ b = bm ∨ nv.ownBlock = some b) w w' → Tab w') :
  Calls Tryz.prog 16 #[.pointer (some ⟨pa, 0, none⟩), .int .i64 (n : Int)] w fun e w' => RL w w' e pa pm L C nv bm X n := by
 have hln := hide (len8_n hA)
 obtain ⟨g, cap, rfl, -⟩ := hA.cell (i := 0) (by omega)
 have u1 : w.cell? ⟨pa, 1, none⟩ = some (.slice (some ⟨g, 0, none⟩) L.length cap) := cell_of_row _ pa 1 _ _ (0, 0) hA.blk
 have hgb : g ≠ bm := fun e => hA.bv (by rw [e]; rfl)
 have hgl : g < w.heap.size := hA.fl (.inr (.inr (.inl rfl)))
 have hpa := hA.pal
 have hpb := hA.ab
 have hlc : L.length ≤ cap := by
  rcases hA.row.2 with ⟨e9, _⟩ | ⟨g9, cap9, cur9, e9, _, _, h9, _⟩
  ·cases e9
  ·cases e9
   exact h9
 by_cases hLn : L.length = n
 ·subst hLn
  have hb1 := frozen_of_row _ pa 1 _ _ hA.blk
  have hfin : Hid (RL w (w.setCell ⟨pa, 1, none⟩ (.slice (some ⟨g, 0, none⟩) L.length cap)) (.returned (.int .i64 0)) pa pm L C (.slice (some ⟨g, 0, none⟩) L.length cap) bm X L.length) := hide (as_release hA hn (butF_below (Below.refl _ _)) hA.map (mapI_end (mapI_start (n := L.length) hA.is) hn (by omega)) (heap_setCell_same _ pa 1 _ _ _ hA.blk) (fun cur2 h2 => ⟨cur2, (heap_setCell_other _ _ g _ (fun e => hA.av (by rw [show g = pa from e]; rfl))).trans h2, rfl, rfl⟩) (fun b h8 _ => heap_setCell_other _ _ b _ h8) (by simp) (by
   have gs := gb_set w pa 1 (.slice (some ⟨g, 0, none⟩) L.length cap)
   exact ⟨gs.os, gs.tape, gs.output⟩))
  have hd1 : decide ((L.length : Int) < 2) = false := by simp; omega
  clear hA htab
  go_enter Tryz.func16, Tryz.ntmps16
  go_wp2_with (go_at_call 10; refine hln.out.mono ?_; rintro e w1 ⟨rfl, rfl⟩)
  all_goals
   (try subst h)
   clear hln
   go_loopw [24] (fun i wr => i = .int .i64 0 ∧ wr = w1) (fun _ _ => 0)
   case atStart => exact ⟨rfl, rfl⟩
   case round =>
    obtain ⟨rfl, rfl⟩ := hrel
    have hcl := clear_none wr
    go_wp2
    go_ret
    exact hfin.out
 have hcn : ¬ cap = n := by omega
 go_enter Tryz.func16, Tryz.ntmps16
 go_wp2_with (go_at_call 10; refine hln.out.mono ?_; rintro e w1 ⟨rfl, rfl⟩)
 have hd1 : decide ((n : Int) < 2) = false := by simp; omega
 have hd2 : decide (L.length < n) = false := by simp; omega
 simp only [hd1, hd2, Bool.or_self]
 have hmap0 := hide hA.map
 have hmi0 := hide (mapI_start (n := n) hA.is)
 replace hA := hide hA
 go_loopw [24] (fun i wr => ∃ (j : Nat) (Dj : DataW Value), j ≤ L.length - n ∧ i = .int .i64 j ∧ Hid (ButF (fun b => b = bm) w1 wr) ∧ Hid (wr.ownsMap Tryz.prog 9 (plainElem Tryz.prog 3) bm (L.length - j) Dj) ∧ Hid (MapI Dj L n j)) (fun i _ => L.length - n - (intOf i).toNat)
 case atStart => exact ⟨0, D, Nat.zero_le _, rfl, hide (butF_below (Below.refl _ _)), hmap0, hmi0⟩
 case round =>
  obtain ⟨j, Dj, hj, rfl, hbr, hmap, hmi⟩ := hrel
  by_cases hjn : j < L.length - n
  ·have hi : n + j < L.length := by omega
   obtain ⟨g2, cap2, e2, hcell⟩ := hA.out.cell hi
   cases e2
   have hXi : n + j < X.length := by have := hA.out.len; omega
   have hN := (hA.out.nodes (n + j) hi).move (G := C) hbr.out.size (fun b hb hl => hbr.out.block b hl fun e => hA.out.cm (e ▸ hb)) fun _ h _ => h
   have hgr : ∀ o, wr.cell? ⟨g, o, none⟩ = w1.cell? ⟨g, o, none⟩ := fun o => World.cell?_of_block (a := ⟨g, o, none⟩) (hbr.out.block g hgl hgb)
   have hdel := mapI_del hmi.out hA.out.uq hi
   have hat0 := fun z => hmi.out.1 (n + j) hi z (.inr (Nat.le_refl _))
   have hhas := Maps.has_true_of_atKey hat0
   have hc := fun c (hc8 : c < 8) => (hgr ((n + j) * 8 + c)).trans (hcell c hc8 hXi)
   generalize L[n + j] = nd at *
   generalize X[n + j] = x at *
   have e0 := hc 0 (by decide)
   have e1 := hc 1 (by decide)
   have e2 := hc 2 (by decide)
   have e3 := hc 3 (by decide)
   have e4 := hc 4 (by decide)
   have e5 := hc 5 (by decide)
   have e6 := hc 6 (by decide)
   have e7 := hc 7 (by decide)
   clear hc hcell hgr hat0
   simp only [NR.enc, List.getElem?_cons_zero, List.getElem?_cons_succ, Nat.add_zero, Nat.add_mul] at e0 e1 e2 e3 e4 e5 e6 e7
   have hkd := hN.kd
   have hvr := hN.vr
   rw [hkd] at e0
   rw [hvr] at e6
   have q2 : wr.cell? ⟨pa, 2, none⟩ = some (.map (some bm)) := cell_of_row _ pa 2 _ _ (0, 0) ((hbr.out.block pa hpa hpb).trans hA.out.blk)
   have hpr : pa < wr.heap.size := Nat.lt_of_lt_of_le hpa hbr.out.size
   have hbmr : bm < wr.heap.size := hmap.out.lt
   have htr : Tab wr := htab wr (hbr.out.mono fun b h => .inr (.inl h))
   clear hkd hvr
   go_wp2_with fail
   clear e0 e1 e2 e3 e4 e5 e6 e7
   have b9 := below_alloc wr (.cells #[.int .i64 nd.kind, .bool x.sd, .slice x.ad x.ld x.cd, .slice x.ap x.np x.cp, .bool x.sk, .slice x.ak x.lk x.ck, .int .i64 nd.var, .slice x.ka x.kn x.kc] 39)
   have y := NB.new wr nd.kind x.sd x.ad x.ld x.cd x.ap x.np x.cp x.sk x.ak x.lk x.ck nd.var x.ka x.kn x.kc
   have hpr2 : pa < wr.heap.size := hpr
   have kb : Hid (Below wr.heap.size wr (wr.alloc (.cells #[.int .i64 nd.kind, .bool x.sd, .slice x.ad x.ld x.cd, .slice x.ap x.np x.cp, .bool x.sk, .slice x.ak x.lk x.ck, .int .i64 nd.var, .slice x.ka x.kn x.kc] 39))) := hide b9
   generalize wr.alloc (.cells #[.int .i64 nd.kind, .bool x.sd, .slice x.ad x.ld x.cd, .slice x.ap x.np x.cp, .bool x.sk, .slice x.ak x.lk x.ck, .int .i64 nd.var, .slice x.ka x.kn x.kc] 39) = w2 at *
   have kD : Below wr.heap.size wr w2.drew := grow_drew kb.out
   have y2 : NB w2.drew wr.heap.size nd.kind x.sd x.ad x.ld x.cd x.ap x.np x.cp x.sk x.ak x.lk x.ck nd.var x.ka x.kn x.kc := y.below (grow_drew (Below.refl _ _))
   have q22 := (kD.cell (p := ⟨pa, 2, none⟩) hpr).trans q2
   clear b9
   generalize hpe : wr.heap.size = p at *
   refine wp_region_held_drew (S := (fun w' => w'.cell? ⟨p, 0, none⟩ = some (.int .i64 nd.kind) ∧ w'.cell? ⟨p, 1, none⟩ = some (.bool x.sd) ∧ w'.cell? ⟨p, 2, none⟩ = some (.slice x.ad x.ld x.cd) ∧ w'.cell? ⟨p, 3, none⟩ = some (.slice x.ap x.np x.cp) ∧ w'.cell? ⟨p, 4, none⟩ = some (.bool x.sk) ∧ w'.cell? ⟨p, 5, none⟩ = some (.slice x.ak x.lk x.ck) ∧ w'.cell? ⟨p, 6, none⟩ = some (.int .i64 nd.var) ∧ w'.cell? ⟨p, 7, none⟩ = some (.slice x.ka x.kn x.kc) ∧ w'.cell? ⟨pa, 2, none⟩ = some (.map (some bm)))) (by kernel_rfl) (⟨y2.c0, y2.c1, y2.c2, y2.c3, y2.c4, y2.c5, y2.c6, y2.c7, q22⟩) (fun hHeld => ?_)
   show wpAnyH _ _ _ _ _ 7 _ _ _
   refine wpAnyH_take (i := 0) (oi := ⟨some 28, _, _, _, _, _⟩) (v := ?_) rfl (by kernel_rfl) (by kernel_rfl) (by kernel_rfl) (fun _ _ _ h => h) (Or.inl ⟨by rfl, ?_⟩) (by assumption) ?_
   rotate_left
   ·intro wq hSw; (try dsimp only at hSw); go_simp; (try with_reducible rfl)
   (try simp only [Act.put, List.setIfInBounds_toArray, List.set_cons_zero, List.set_cons_succ])
   refine wpAnyH_take (i := 1) (oi := ⟨some 29, _, _, _, _, _⟩) (v := ?_) rfl (by kernel_rfl) (by kernel_rfl) (by kernel_rfl) (fun _ _ _ h => h) (Or.inl ⟨by rfl, ?_⟩) (by assumption) ?_
   rotate_left
   ·intro wq hSw; (try dsimp only at hSw); go_simp; (try with_reducible rfl)
   (try simp only [Act.put, List.setIfInBounds_toArray, List.set_cons_zero, List.set_cons_succ])
   refine wpAnyH_take (i := 2) (oi := ⟨some 30, _, _, _, _, _⟩) (v := ?_) rfl (by kernel_rfl) (by kernel_rfl) (by kernel_rfl) (fun _ _ _ h => h) (Or.inl ⟨by rfl, ?_⟩) (by assumption) ?_
   rotate_left
   ·intro wq hSw; (try dsimp only at hSw); go_simp; (try with_reducible rfl)
   (try simp only [Act.put, List.setIfInBounds_toArray, List.set_cons_zero, List.set_cons_succ])
   refine wpAnyH_take (i := 3) (oi := ⟨some 31, _, _, _, _, _⟩) (v := ?_) rfl (by kernel_rfl) (by kernel_rfl) (by kernel_rfl) (fun _ _ _ h => h) (Or.inl ⟨by rfl, ?_⟩) (by assumption) ?_
   rotate_left
   ·intro wq hSw; (try dsimp only at hSw); go_simp; (try with_reducible rfl)
   (try simp only [Act.put, List.setIfInBounds_toArray, List.set_cons_zero, List.set_cons_succ])
   refine wpAnyH_take (i := 4) (oi := ⟨some 32, _, _, _, _, _⟩) (v := ?_) rfl (by kernel_rfl) (by kernel_rfl) (by kernel_rfl) (fun _ _ _ h => h) (Or.inl ⟨by rfl, ?_⟩) (by assumption) ?_
   rotate_left
   ·intro wq hSw; (try dsimp only at hSw); go_simp; (try with_reducible rfl)
   (try simp only [Act.put, List.setIfInBounds_toArray, List.set_cons_zero, List.set_cons_succ])
   refine wpAnyH_ready (rs := [5]) (by kernel_rfl) (by simp) ?_
   refine AllReadyH.cons (o := ⟨some 33, _, _, _, _, _⟩) rfl (fun K hK => ?_) AllReadyH.nil
   go_simp
   have hN2 := hN.move (G := C) (w' := w2.drew) (hpe ▸ kD.size) (fun b hb hl => kD.block b (hpe ▸ hl)) fun _ h _ => h
   refine Calls.mono (text_n hN2.zd hN2.hld hN2.pn.pn hN2.zk hN2.hlk hN2.kids hN2.ikd hN2.ivr hN2.hnp hN2.hkn (Nat.le_refl _) (htr.below (hpe ▸ kD))) ?_
   rintro e w3 ⟨rfl, k3⟩
   have htl := txt_length hN2.zd hN2.hld hN2.pn.pn hN2.zk hN2.hlk hN2.kids hN2.ikd hN2.ivr hN2.hnp hN2.hkn (Nat.le_refl _)
   have y3 := y2.below k3
   have k23 : Below p wr w3 := hpe ▸ grow_step k3 (hpe ▸ kD)
   have q23 := (k23.cell (p := ⟨pa, 2, none⟩) (hpe ▸ hpr)).trans q2
   (try go_wp2_with fail)
   refine hK.out _ _ ?_ ?_
   ·(try dsimp only); exact ⟨y3.c0, y3.c1, y3.c2, y3.c3, y3.c4, y3.c5, y3.c6, y3.c7, q23⟩
   clear hK K hHeld; intro hHeld
   (try simp only [Act.put, List.setIfInBounds_toArray, List.set_cons_zero, List.set_cons_succ])
   refine wpAnyH_ready (rs := [6]) (by kernel_rfl) (by simp) ?_
   refine AllReadyH.cons (o := ⟨none, _, _, _, _, _⟩) rfl (fun K hK => ?_) AllReadyH.nil
   have hkey := WideMaps.keyOf_string_mk (P := Tryz.prog) (k := 9) (s := ⟨(txt nd).toArray⟩) Tryz.underlying9 (by rw [size_list]; exact htl)
   have hm3 : w3.ownsMap Tryz.prog 9 (plainElem Tryz.prog 3) bm (L.length - j) Dj := map_move hmap.out (k23.block bm (hpe ▸ hbmr))
   obtain ⟨w4, hrun, hm4, ht4⟩ := hm3.drop ks Tryz.underlying60 hkey 0
   have hb4 := turned_block ht4
   have y4 : NB w4 p nd.kind x.sd x.ad x.ld x.cd x.ap x.np x.cp x.sk x.ak x.lk x.ck nd.var x.ka x.kn x.kc := (hb4.block p y3.lt (by omega)).trans y3
   have q24 := (World.cell?_of_block (a := ⟨pa, 2, none⟩) (hb4.block pa (Nat.lt_of_lt_of_le (hpe ▸ hpr) (hpe ▸ k23.size)) hpb)).trans q23
   have hsz : Maps.size (Dj.del (.string (txt nd))) + 1 = Maps.size Dj := by
    have h9 := Maps.size_del (k := .string (txt nd)) (hm3.tidy ks)
    rw [hhas] at h9
    simpa using h9
   have hm5 : Hid (w4.ownsMap Tryz.prog 9 (plainElem Tryz.prog 3) bm (L.length - (j + 1)) (Dj.del (.string (txt nd)))) := hide ((map_exact hm4).mono (by have h9 := hm3.size_le; change Maps.size (Dj.del (.string (txt nd))) ≤ _; omega))
   have hbw : Hid (ButF (fun b => b = bm) w1 w4) := hide (ButF.trans (ButF.trans hbr.out (butF_below (hpe ▸ k23)) fun _ _ h => h) hb4 fun _ _ h => h)
   clear hm4 ht4 hb4 hm3
   go_simp
   refine hK.out _ _ ?_ ?_
   ·(try dsimp only); exact ⟨y4.c0, y4.c1, y4.c2, y4.c3, y4.c4, y4.c5, y4.c6, y4.c7, q24⟩
   clear hK K hHeld; intro hHeld
   (try simp only [Act.put, List.setIfInBounds_toArray, List.set_cons_zero, List.set_cons_succ])
   refine wpAnyH_done (by kernel_rfl) ?_ _
   replace hdel := hide hdel
   clear hHeld y4 y3 y2 y q2 q22 q23 q24 hN hN2 htr hmap hmi hhas hsz hkey htl k3 k23 kD kb hrun
   go_wp2
   exact ⟨⟨j + 1, _, by omega, by go_num, hbw, hm5, hdel⟩, by simp [intOf]; omega⟩
  ·obtain rfl : j = L.length - n := by omega
   have hgr : g < wr.heap.size := Nat.lt_of_lt_of_le hgl hbr.out.size
   obtain ⟨cur, hcur, hcsz⟩ : ∃ cur, wr.heap[g]? = some (.cells cur 39 (0, 0)) ∧ cur.size = cap * 8 := by
    rcases hA.out.row.2 with ⟨e9, _⟩ | ⟨g9, cap9, cur, e9, _, e2, _, _, e5, _⟩
    ·cases e9
    ·cases e9
     exact ⟨cur, (hbr.out.block g hgl hgb).trans e2, e5⟩
   have hblk : wr.heap[pa]? = some (.cells #[.pointer (some ⟨pm, 0, none⟩), .slice (some ⟨g, 0, none⟩) L.length cap, .map (some bm)] 63 (0, 0)) := (hbr.out.block pa hpa hpb).trans hA.out.blk
   have hgp : pa ≠ g := fun e => hA.out.av (by rw [← e]; rfl)
   have hb5 : (wr.setCells g (n * 8) (Builtin.zeroCells zN.cells (L.length - n)).toList).heap[pa]? = some (.cells #[.pointer (some ⟨pm, 0, none⟩), .slice (some ⟨g, 0, none⟩) L.length cap, .map (some bm)] 63 (0, 0)) := (cells_other g hgp _ _ _).trans hblk
   have v1 := cell_of_row _ pa 1 _ _ (0, 0) hb5
   have f1 := frozen_of_row _ pa 1 _ _ hb5
   have hfin : Hid (RL w1 ((wr.setCells g (n * 8) (Builtin.zeroCells zN.cells (L.length - n)).toList).setCell ⟨pa, 1, none⟩ (.slice (some ⟨g, 0, none⟩) n cap)) (.returned (.int .i64 0)) pa pm L C (.slice (some ⟨g, 0, none⟩) L.length cap) bm X n) := hide (as_release hA.out hn hbr.out (by have h9 := hmap.out; rwa [show L.length - (L.length - n) = n by omega] at h9) (mapI_end hmi.out hn (by omega)) (heap_setCell_same _ pa 1 _ _ _ hb5) (fun cur2 h2 => by
    obtain ⟨cur', c1, c2, c3⟩ := cells_row g _ (Builtin.zeroCells zN.cells (L.length - n)).toList (n * 8) wr cur2 h2
    exact ⟨cur', (heap_setCell_other _ _ g _ (fun e => hgp e.symm)).trans c1, c2, c3⟩) (fun b h8 h9 => (heap_setCell_other _ _ b _ h8).trans (cells_other g h9 _ _ _)) (by simp) (by
    obtain ⟨r1, r2, r3⟩ := cells_rest g (Builtin.zeroCells zN.cells (L.length - n)).toList (n * 8) wr
    have gs := gb_set (wr.setCells g (n * 8) (Builtin.zeroCells zN.cells (L.length - n)).toList) pa 1 (.slice (some ⟨g, 0, none⟩) n cap)
    exact ⟨gs.os.trans r1, gs.tape.trans r2, gs.output.trans r3⟩))
   obtain ⟨k, hk⟩ : ∃ k, L.length - n = k + 1 := ⟨L.length - n - 1, by omega⟩
   have hcl := fun ty => clear_nodes (c := cap - n) (k := k) (o := n * 8) hcur (by omega) ty
   clear hA hbr hmap hmi hb5 hblk hcur hmap0 hmi0 hln
   rw [hk] at v1 f1 hfin ⊢
   generalize wr.setCells g (n * 8) (Builtin.zeroCells zN.cells (k + 1)).toList = w5 at *
   go_wp2
   go_ret
   exact hfin.out
end Nt
end Go.Proofs.YtjdghmkolkidpaaGreatDoor
