/-
 Several texts in one: ED, EE, EF, EG, EP, EQ, EH, EI, LArenaNil.
-/
import Derived.Test.YtjdghmkolkidpaaGreatDoorP37
import Derived.Lib.OwnBridge
import Derived.Test.YtjdghmkolkidpaaGreatDoorP06
import Derived.Test.YtjdghmkolkidpaaGreatDoorP35
import Derived.Test.YtjdghmkolkidpaaGreatDoorP22
namespace Go.Proofs.YtjdghmkolkidpaaGreatDoor
open Go.RowKit Go.Sort Go.Shelf
open Tm At
namespace Nt

/-- the numbers of a list, rising, each once -/
def ris (l : List Int) : List Int := Lib.compact (l.mergeSort fun x y => decide (x ≤ y))
theorem compact_len (l : List Int) : (Lib.compact l).length ≤ l.length := by
 unfold Lib.compact Lib.compactUpTo
 rw [List.length_map]
 exact Nat.le_trans (List.length_filter_le _ _) (by simp)
theorem compact_mem {l : List Int} {x : Int} (h : x ∈ Lib.compact l) : x ∈ l := by
 unfold Lib.compact Lib.compactUpTo at h
 obtain ⟨j, hj, rfl⟩ := List.mem_map.1 h
 have hj := List.mem_range.1 (List.mem_filter.1 hj).1
 rw [getElem!_pos _ _ (by simpa using hj)]
 simp
theorem ris_mem {l : List Int} {x : Int} (h : x ∈ ris l) : x ∈ l := (List.mem_mergeSort).1 (compact_mem h)
theorem ris_nil : ris [] = [] := by simp [ris, Lib.compact, Lib.compactUpTo]
/-- what rising answers -/
def RI (w w' : World) (e : Ending) (l : List Int) : Prop := CI w w' e (ris l).length (ris l)

set_option maxRecDepth 100000 in
set_option maxHeartbeats 1600000 in
theorem rising_n {w : World} {ka : Option Addr} {kc : Nat} {l : List Int} (hI : IL w ka l.length l) (hkn : l.length ≤ 4194304) :
  Calls Tryz.prog 38 #[.slice ka l.length kc] w fun e w' => RI w w' e l := by
 go_enter Tryz.func38, Tryz.ntmps38
 go_wp2_with fail
 by_cases h0 : l = []
 ·subst h0
  refine (cloneI_n (kn := 0) hI (by simp)).mono ?_
  rintro e w1 ⟨a, c, rfl, h1, h2, k1⟩
  go_wp2_with (first | (go_at_call 59; refine (Tryz.slices_Sort_int_none a c w1).mono ?_; rintro e w2 ⟨rfl, rfl⟩) | (go_at_call 60; refine (Tryz.slices_Compact_int_empty a c _).mono ?_; rintro e w3 ⟨rfl, rfl⟩))
  go_ret
  unfold RI
  rw [ris_nil]
  exact ⟨a, c, rfl, h1, h2, k1⟩
 ·have hl0 : 0 < l.length := List.length_pos_iff.2 h0
  rcases hI.2 with h2 | ⟨b, off, rfl, hb, h2⟩
  ·omega
  have hx : ∀ x ∈ l, I64 x := fun x hx => by
   obtain ⟨i, hi, rfl⟩ := List.getElem_of_mem hx
   exact (h2 i hi).2
  refine (Tryz.slices_Clone_int b off l.length kc l w (Nat.le_refl _) (by omega) (fun j hj => ?_)).mono ?_
  ·rw [(h2 j hj).1, List.getD_eq_getElem?_getD, List.getElem?_eq_getElem hj]
   rfl
  ·rintro e w1 ⟨v, rfl, hown, hv0, k1⟩
   rw [List.take_of_length_le (Nat.le_refl _)] at hown
   obtain ⟨g, cap, rfl, hg1, hg2, hcap, hmax, -, hH⟩ := Lib.holds_of_ownsRow hown hv0
   go_wp2_with fail
   refine (Tryz.slices_Sort_int g 0 cap l w1 hH hg2 (by omega)).mono ?_
   rintro e w2 ⟨rfl, q, os, rfl⟩
   have hsl : (l.mergeSort fun x y => decide (x ≤ y)).length = l.length := List.length_mergeSort _
   have hrl : (ris l).length ≤ l.length := hsl ▸ compact_len _
   have r2 := Lib.ownsRow_putRow (q := q) hown hsl (Nat.le_refl _)
   rw [List.take_of_length_le (Nat.le_of_eq hsl)] at r2
   have r3 := Lib.ownsRow_grow r2 0 os
   have kb := Lib.below_putRow (enc := Value.int .i64) (q := q) (d := (l.mergeSort fun x y => decide (x ≤ y)).toArray) k1 hg1
   have kb3 := kb.trans (Lib.below_grow w.heap.size _ kb.size 0 os)
   have e0 : (putRow (Value.int .i64) (Sort.ahead w1 q) g 0 (l.mergeSort fun x y => decide (x ≤ y)).toArray).drewN 0 = putRow (Value.int .i64) (Sort.ahead w1 q) g 0 (l.mergeSort fun x y => decide (x ≤ y)).toArray := rfl
   rw [e0] at r3 kb3
   generalize grow (putRow (Value.int .i64) (Sort.ahead w1 q) g 0 (l.mergeSort fun x y => decide (x ≤ y)).toArray) os = w3 at *
   obtain ⟨g', cap', e9, -, -, -, -, -, hH3⟩ := Lib.holds_of_ownsRow r3 (by simp)
   cases e9
   replace r3 := hide r3
   replace kb3 := hide kb3
   clear kb r2 hown hH e0
   have hcomp := Tryz.slices_Compact_int g 0 cap (l.mergeSort fun x y => decide (x ≤ y)) w3 hH3 (by omega) (by omega)
   rw [hsl] at hcomp
   replace hcomp := hide hcomp
   clear hH3
   go_wp2_with fail
   refine hcomp.out.mono ?_
   rintro e w4 ⟨rfl, q4, rfl⟩
   have r4 := Lib.ownsRow_putRow (q := q4) (ys := ris l ++ List.replicate (l.length - (ris l).length) 0) r3.out (by simp; omega) (k := (ris l).length) hrl
   rw [List.take_left' rfl] at r4
   have k4 := Lib.below_putRow (enc := Value.int .i64) (q := q4) (d := (ris l ++ List.replicate (l.length - (ris l).length) 0).toArray) kb3.out hg1
   obtain ⟨a5, c5, e5, hI5, hn5⟩ := row_il r4 (fun x hx' => hx x (ris_mem hx'))
   cases e5
   have hfin : Hid (CI w _ (.returned (.slice (some ⟨g, 0, none⟩) (ris l).length cap)) (ris l).length (ris l)) := hide ⟨_, _, rfl, hI5, hn5, k4⟩
   clear r4 k4 hI5 hn5
   go_wp2
   go_ret
   exact hfin.out
end Nt
end Go.Proofs.YtjdghmkolkidpaaGreatDoor

namespace Go.Proofs.YtjdghmkolkidpaaGreatDoor
open Go.RowKit Go.Sort Go.Shelf
open Tm At
namespace Nt

/-- a node that is a constant -/
def cst (k : Int) : Nd := ⟨k, 0, [], 0, 0, []⟩
/-- what New answers: an arena with the two constants, in new memory -/
def NW (w w' : World) (e : Ending) (pm : Nat) : Prop :=
 ∃ pa C nv bm X D, e = .returned (.pointer (some ⟨pa, 0, none⟩)) ∧ AS w' pa pm [cst 0, cst 1] C 2097152 nv bm X D ∧ (∀ b, FF pa bm nv C b → w.heap.size ≤ b) ∧ Below w.heap.size w w'
theorem as_new {w : World} {pa pm bm : Nat} (h : w.heap[pa]? = some (.cells #[.pointer (some ⟨pm, 0, none⟩), .slice none 0 0, .map (some bm)] 63 (0, 0))) (hm : w.ownsMap Tryz.prog 9 (plainElem Tryz.prog 3) bm 0 (.map [] : DataW Value)) : AS w pa pm [] (fun _ => False) 2097152 (.slice none 0 0) bm [] (.map []) :=
 ⟨h, rfl, ⟨rfl, .inl ⟨rfl, rfl⟩⟩, fun i hi => absurd hi (Nat.not_lt_zero _), hm, ⟨fun i hi => absurd hi (Nat.not_lt_zero _), fun t _ z => by simp [DataW.atKey]⟩, fun _ h => h.elim, id, id, fun _ _ h => h⟩
theorem cst_take (t : Nat) (h : t < 2) : [cst 0, cst 1].take (t + 1) = [cst 0, cst 1].take t ++ [cst t] ∧ cst t ∉ [cst 0, cst 1].take t := by
 obtain rfl | rfl : t = 0 ∨ t = 1 := by omega
 ·exact ⟨rfl, by simp⟩
 ·refine ⟨rfl, fun h => ?_⟩
  have h1 : cst ((1 : Nat) : Int) = cst 0 := by simpa using h
  have := congrArg Nd.kind h1
  exact absurd this (by decide)

set_option maxRecDepth 100000 in
set_option maxHeartbeats 3200000 in
theorem newM_n {w : World} {pm : Nat} {nn kk c er : Int} (_hM : MB w pm nn kk c er) (htab : Tab w) :
  Calls Tryz.prog 8 #[.pointer (some ⟨pm, 0, none⟩)] w fun e w' => NW w w' e pm := by
 have hmk := run_makeMap (P := Tryz.prog) 60 w
 go_enter Tryz.func8, Tryz.ntmps8
 go_wp2_with fail
 clear hmk
 have b0 : Below w.heap.size w (((w.alloc (.map #[] 0)).alloc (.cells #[.pointer (some ⟨pm, 0, none⟩), .slice none 0 0, .map (some w.heap.size)] 63)).alloc (.cells #[.int .i64 0, .int .i64 1] 3)) := below_alloc' (below_alloc' (below_alloc _ _) _) _
 have hlb : (((w.alloc (.map #[] 0)).alloc (.cells #[.pointer (some ⟨pm, 0, none⟩), .slice none 0 0, .map (some w.heap.size)] 63)).alloc (.cells #[.int .i64 0, .int .i64 1] 3)).heap[w.heap.size + 1 + 1]? = some (.cells #[.int .i64 0, .int .i64 1] 3 (0, 0)) := by
  have := heap_alloc_new ((w.alloc (.map #[] 0)).alloc (.cells #[.pointer (some ⟨pm, 0, none⟩), .slice none 0 0, .map (some w.heap.size)] 63)) (.cells #[.int .i64 0, .int .i64 1] 3)
  simpa using this
 have hab : (((w.alloc (.map #[] 0)).alloc (.cells #[.pointer (some ⟨pm, 0, none⟩), .slice none 0 0, .map (some w.heap.size)] 63)).alloc (.cells #[.int .i64 0, .int .i64 1] 3)).heap[w.heap.size + 1]? = some (.cells #[.pointer (some ⟨pm, 0, none⟩), .slice none 0 0, .map (some w.heap.size)] 63 (0, 0)) := by
  have h1 := heap_alloc_new (w.alloc (.map #[] 0)) (.cells #[.pointer (some ⟨pm, 0, none⟩), .slice none 0 0, .map (some w.heap.size)] 63)
  have h2 := (below_alloc ((w.alloc (.map #[] 0)).alloc (.cells #[.pointer (some ⟨pm, 0, none⟩), .slice none 0 0, .map (some w.heap.size)] 63)) (.cells #[.int .i64 0, .int .i64 1] 3)).block (w.heap.size + 1) (by simp)
  rw [h2]
  simpa using h1
 have hmp : (((w.alloc (.map #[] 0)).alloc (.cells #[.pointer (some ⟨pm, 0, none⟩), .slice none 0 0, .map (some w.heap.size)] 63)).alloc (.cells #[.int .i64 0, .int .i64 1] 3)).ownsMap Tryz.prog 9 (plainElem Tryz.prog 3) w.heap.size 0 (.map [] : DataW Value) := ((World.ownsMap_made w Tryz.prog 9 (plainElem (H := Value) Tryz.prog 3)).alloc _).alloc _
 have hA0 := as_new hab hmp
 clear hab hmp
 generalize ((w.alloc (.map #[] 0)).alloc (.cells #[.pointer (some ⟨pm, 0, none⟩), .slice none 0 0, .map (some w.heap.size)] 63)).alloc (.cells #[.int .i64 0, .int .i64 1] 3) = wb at *
 generalize hs : w.heap.size = s at *
 replace b0 : Hid (Below w.heap.size w wb) := hs ▸ b0
 go_loopw [19] (fun i wr => ∃ (t : Nat) (C : Nat → Prop) (nv : Value) (X : List NR) (D : DataW Value), t ≤ 2 ∧ i = .int .i64 t ∧ Hid (AS wr (s + 1) pm ([cst 0, cst 1].take t) C 2097152 nv s X D) ∧ Hid (∀ b, FF (s + 1) s nv C b → s ≤ b ∧ b ≠ s + 1 + 1) ∧ Hid (wr.heap[s + 1 + 1]? = some (.cells #[.int .i64 0, .int .i64 1] 3 (0, 0))) ∧ Hid (Below w.heap.size w wr)) (fun i _ => 2 - (intOf i).toNat)
 case atStart => exact ⟨0, _, _, _, _, by omega, rfl, hA0, (fun b hb => by rcases hb with rfl | rfl | hb | hb <;> first | omega | (cases hb)), hlb, b0⟩
 case round =>
  obtain ⟨t, C, nv, X, D, ht, rfl, hA, hF, hl, kr⟩ := hrel
  by_cases htn : t < 2
  ·have hc0 : wr.cell? ⟨s + 1 + 1, t, none⟩ = some (.int .i64 (t : Int)) := by
    rw [cell_of_row _ (s + 1 + 1) t _ _ (0, 0) hl.out]
    obtain rfl | rfl : t = 0 ∨ t = 1 := by omega
    ·rfl
    ·rfl
   obtain ⟨htk, hnew⟩ := cst_take t htn
   have y := NB.new wr (t : Int) false none 0 0 none 0 0 false none 0 0 0 none 0 0
   have ka := below_alloc wr (.cells #[.int .i64 (t : Int), .bool false, .slice none 0 0, .slice none 0 0, .bool false, .slice none 0 0, .int .i64 0, .slice none 0 0] 39)
   have hA1 := hA.out.below ka
   have hT1 := htab.below (grow_step ka kr.out)
   have hl1 := (ka.block (s + 1 + 1) (Array.getElem?_eq_some_iff.1 hl.out).1).trans hl.out
   have kr1 := grow_step ka kr.out
   replace y := hide y
   replace hA1 := hide hA1
   go_wp2_with fail
   clear hc0
   replace y := y.out
   replace hA1 := hA1.out
   have hq : s + 1 + 1 < wr.heap.size := (Array.getElem?_eq_some_iff.1 hl.out).1
   generalize wr.alloc (.cells #[.int .i64 (t : Int), .bool false, .slice none 0 0, .slice none 0 0, .bool false, .slice none 0 0, .int .i64 0, .slice none 0 0] 39) = wq at *
   generalize hqe : wr.heap.size = q at *
   refine wp_region_held_drew (S := (fun w' => w'.cell? ⟨q, 0, none⟩ = some (.int .i64 (t : Int)) ∧ w'.cell? ⟨q, 1, none⟩ = some (.bool false) ∧ w'.cell? ⟨q, 2, none⟩ = some (.slice none 0 0) ∧ w'.cell? ⟨q, 3, none⟩ = some (.slice none 0 0) ∧ w'.cell? ⟨q, 4, none⟩ = some (.bool false) ∧ w'.cell? ⟨q, 5, none⟩ = some (.slice none 0 0) ∧ w'.cell? ⟨q, 6, none⟩ = some (.int .i64 0) ∧ w'.cell? ⟨q, 7, none⟩ = some (.slice none 0 0))) (by kernel_rfl) (lay_S y) (fun hHeld => ?_)
   show wpAnyH _ _ _ _ _ 5 _ _ _
   refine wpAnyH_take (i := 0) (oi := ⟨some 25, _, _, _, _, _⟩) (v := ?_) rfl (by kernel_rfl) (by kernel_rfl) (by kernel_rfl) (fun _ _ _ h => h) (Or.inl ⟨by rfl, ?_⟩) (by assumption) ?_
   rotate_left
   ·intro wq hSw; (try dsimp only at hSw); go_simp; (try with_reducible rfl)
   (try simp only [Act.put, List.setIfInBounds_toArray, List.set_cons_zero, List.set_cons_succ])
   refine wpAnyH_take (i := 1) (oi := ⟨some 26, _, _, _, _, _⟩) (v := ?_) rfl (by kernel_rfl) (by kernel_rfl) (by kernel_rfl) (fun _ _ _ h => h) (Or.inl ⟨by rfl, ?_⟩) (by assumption) ?_
   rotate_left
   ·intro wq hSw; (try dsimp only at hSw); go_simp; (try with_reducible rfl)
   (try simp only [Act.put, List.setIfInBounds_toArray, List.set_cons_zero, List.set_cons_succ])
   refine wpAnyH_take (i := 2) (oi := ⟨some 27, _, _, _, _, _⟩) (v := ?_) rfl (by kernel_rfl) (by kernel_rfl) (by kernel_rfl) (fun _ _ _ h => h) (Or.inl ⟨by rfl, ?_⟩) (by assumption) ?_
   rotate_left
   ·intro wq hSw; (try dsimp only at hSw); go_simp; (try with_reducible rfl)
   (try simp only [Act.put, List.setIfInBounds_toArray, List.set_cons_zero, List.set_cons_succ])
   refine wpAnyH_ready (rs := [3]) (by kernel_rfl) (by simp) ?_
   refine AllReadyH.cons (o := ⟨some 28, _, _, _, _, _⟩) rfl (fun K hK => ?_) AllReadyH.nil
   go_simp
   refine Calls.mono (text_n (w := wq.drew) (kids := []) (ps := []) (d := 0) (k := 0) (B := 0) (zn_zero _) (by omega) (pn_nil _ _ _) (zn_zero _) (by omega) ⟨rfl, .inl rfl⟩ (by unfold I64; omega) (by unfold I64; decide) (by omega) (by omega) (by omega) hT1) ?_
   rintro e w2 ⟨rfl, k2⟩
   replace k2 := grow_step k2 (grow_drew (Below.refl _ _))
   have y := y.below k2
   have hA1 := hA1.below k2
   (try go_wp2_with fail)
   refine hK.out _ _ ?_ ?_
   ·(try dsimp only); exact lay_S y
   clear hK K hHeld; intro hHeld
   (try simp only [Act.put, List.setIfInBounds_toArray, List.set_cons_zero, List.set_cons_succ])
   refine wpAnyH_ready (rs := [4]) (by kernel_rfl) (by simp) ?_
   refine AllReadyH.cons (o := ⟨some 29, _, _, _, _, _⟩) rfl (fun K hK => ?_) AllReadyH.nil
   go_simp
   refine Calls.mono (lay_n (w := w2) (kids := []) (ps := []) (d := 0) (k := 0) hA1 (zn_zero _) (by omega) (pn_nil _ _ _) (zn_zero _) (by omega) ⟨rfl, .inl rfl⟩ (by unfold I64; omega) (by unfold I64; decide) (by omega) (by omega) (by omega) (by simp; omega) hnew (txt_length (w := w2) (ap := none) (np := 0) (ka := none) (kn := 0) (B := 0) (zn_zero _) (by omega) (pn_nil _ _ _) (zn_zero _) (by omega) ⟨rfl, .inl rfl⟩ (by unfold I64; omega) (by unfold I64; decide) (by omega) (by omega) (by omega))) ?_
   rintro e w3 ⟨rfl, C', nv', X', D', hA3, hF3, hB3⟩
   have y3 : NB w3 q (t : Int) false none 0 0 none 0 0 false none 0 0 0 none 0 0 := (hB3.block q y.lt (fun hf => by have h1 := hA.out.fl hf; omega)).trans y
   (try go_wp2_with fail)
   refine hK.out _ _ ?_ ?_
   ·(try dsimp only); exact lay_S y3
   clear hK K hHeld; intro hHeld
   (try simp only [Act.put, List.setIfInBounds_toArray, List.set_cons_zero, List.set_cons_succ])
   refine wpAnyH_done (by kernel_rfl) ?_ _
   have hA4 : Hid (AS w3 (s + 1) pm ([cst 0, cst 1].take (t + 1)) C' 2097152 nv' s X' D') := hide (by rw [htk]; exact hA3)
   have h2q : q < w2.heap.size := y.lt
   have hF4 : Hid (∀ b, FF (s + 1) s nv' C' b → s ≤ b ∧ b ≠ s + 1 + 1) := hide fun b hb => (hF3 b hb).elim (hF.out b) fun h => ⟨by omega, by omega⟩
   have hl2 := (k2.block (s + 1 + 1) (Array.getElem?_eq_some_iff.1 hl1).1).trans hl1
   have hl4 : Hid (w3.heap[s + 1 + 1]? = some (.cells #[.int .i64 0, .int .i64 1] 3 (0, 0))) := hide ((hB3.block (s + 1 + 1) (by omega) (fun hf => (hF.out _ hf).2 rfl)).trans hl2)
   have k4 : Hid (Below w.heap.size w w3) := hide ((grow_step k2 kr1).trans (hB3.below (fun b hb => by have := (hF.out b hb).1; omega) (by omega)))
   clear hHeld hA3 hF3 hB3 y y3 hA1 k2 hl1 hl2 kr1 hA hF hl kr ka hT1 hA0 hlb
   go_wp2
   exact ⟨⟨t + 1, C', nv', X', D', by omega, by go_num, hA4, hF4, hl4, k4⟩, by simp [intOf]; omega⟩
  ·obtain rfl : t = 2 := by omega
   have hfin : Hid (NW w wr (.returned (.pointer (some ⟨s + 1, 0, none⟩))) pm) := hide ⟨s + 1, C, nv, s, X, D, rfl, hA.out, fun b hb => by have := (hF.out b hb).1; omega, kr.out⟩
   clear hA hF hl kr hA0 hlb
   go_wp2
   go_ret
   exact hfin.out
/-- what New answers without a meter: it has one of its own -/
def NN (w w' : World) (e : Ending) : Prop :=
 ∃ pm pa C nv bm X D, e = .returned (.pointer (some ⟨pa, 0, none⟩)) ∧ AS w' pa pm [cst 0, cst 1] C 2097152 nv bm X D ∧ MB w' pm 2000 8 0 0 ∧ ¬ FF pa bm nv C pm ∧ (∀ b, FF pa bm nv C b → w.heap.size ≤ b) ∧ w.heap.size ≤ pm ∧ Below w.heap.size w w'
theorem nw_nn {w w1 w' : World} {e : Ending} {pm : Nat} (h : NW w1 w' e pm) (hM : MB w1 pm 2000 8 0 0) (k : Below w.heap.size w w1 ∧ w.heap.size ≤ pm) : NN w w' e := by
 obtain ⟨pa, C, nv, bm, X, D, h1, h2, h3, h4⟩ := h
 have hl := hM.lt
 exact ⟨pm, pa, C, nv, bm, X, D, h1, h2, hM.below h4, fun hf => by have := h3 pm hf; omega, fun b hb => Nat.le_trans k.1.size (h3 b hb), k.2, grow_step h4 k.1⟩
set_option maxRecDepth 100000 in
set_option maxHeartbeats 3200000 in
theorem newN_n {w : World} (htab : Tab w) : Calls Tryz.prog 8 #[.pointer none] w fun e w' => NN w w' e := by
 go_enter Tryz.func8, Tryz.ntmps8
 go_wp2_with fail
 refine (new_n (by decide) (by decide) (by decide) (by decide)).mono ?_
 rintro e w1 ⟨rfl, hM1, k1⟩
 have htab1 := htab.below k1
 have k0 : Below w.heap.size w w1 ∧ w.heap.size ≤ w.heap.size := ⟨k1, Nat.le_refl _⟩
 generalize hpm : w.heap.size = pm at hM1 ⊢
 replace k0 : Below w.heap.size w w1 ∧ w.heap.size ≤ pm := ⟨k0.1, Nat.le_of_eq hpm⟩
 clear hpm k1
 have hmk := run_makeMap (P := Tryz.prog) 60 w1
 go_wp2_with fail
 clear hmk
 have b0 : Below w1.heap.size w1 (((w1.alloc (.map #[] 0)).alloc (.cells #[.pointer (some ⟨pm, 0, none⟩), .slice none 0 0, .map (some w1.heap.size)] 63)).alloc (.cells #[.int .i64 0, .int .i64 1] 3)) := below_alloc' (below_alloc' (below_alloc _ _) _) _
 have hlb : (((w1.alloc (.map #[] 0)).alloc (.cells #[.pointer (some ⟨pm, 0, none⟩), .slice none 0 0, .map (some w1.heap.size)] 63)).alloc (.cells #[.int .i64 0, .int .i64 1] 3)).heap[w1.heap.size + 1 + 1]? = some (.cells #[.int .i64 0, .int .i64 1] 3 (0, 0)) := by
  have := heap_alloc_new ((w1.alloc (.map #[] 0)).alloc (.cells #[.pointer (some ⟨pm, 0, none⟩), .slice none 0 0, .map (some w1.heap.size)] 63)) (.cells #[.int .i64 0, .int .i64 1] 3)
  simpa using this
 have hab : (((w1.alloc (.map #[] 0)).alloc (.cells #[.pointer (some ⟨pm, 0, none⟩), .slice none 0 0, .map (some w1.heap.size)] 63)).alloc (.cells #[.int .i64 0, .int .i64 1] 3)).heap[w1.heap.size + 1]? = some (.cells #[.pointer (some ⟨pm, 0, none⟩), .slice none 0 0, .map (some w1.heap.size)] 63 (0, 0)) := by
  have h1 := heap_alloc_new (w1.alloc (.map #[] 0)) (.cells #[.pointer (some ⟨pm, 0, none⟩), .slice none 0 0, .map (some w1.heap.size)] 63)
  have h2 := (below_alloc ((w1.alloc (.map #[] 0)).alloc (.cells #[.pointer (some ⟨pm, 0, none⟩), .slice none 0 0, .map (some w1.heap.size)] 63)) (.cells #[.int .i64 0, .int .i64 1] 3)).block (w1.heap.size + 1) (by simp)
  rw [h2]
  simpa using h1
 have hmp : (((w1.alloc (.map #[] 0)).alloc (.cells #[.pointer (some ⟨pm, 0, none⟩), .slice none 0 0, .map (some w1.heap.size)] 63)).alloc (.cells #[.int .i64 0, .int .i64 1] 3)).ownsMap Tryz.prog 9 (plainElem Tryz.prog 3) w1.heap.size 0 (.map [] : DataW Value) := ((World.ownsMap_made w1 Tryz.prog 9 (plainElem (H := Value) Tryz.prog 3)).alloc _).alloc _
 have hA0 := as_new hab hmp
 clear hab hmp
 generalize ((w1.alloc (.map #[] 0)).alloc (.cells #[.pointer (some ⟨pm, 0, none⟩), .slice none 0 0, .map (some w1.heap.size)] 63)).alloc (.cells #[.int .i64 0, .int .i64 1] 3) = wb at *
 generalize hs : w1.heap.size = s at *
 replace b0 : Hid (Below w1.heap.size w1 wb) := hs ▸ b0
 go_loopw [19] (fun i wr => ∃ (t : Nat) (C : Nat → Prop) (nv : Value) (X : List NR) (D : DataW Value), t ≤ 2 ∧ i = .int .i64 t ∧ Hid (AS wr (s + 1) pm ([cst 0, cst 1].take t) C 2097152 nv s X D) ∧ Hid (∀ b, FF (s + 1) s nv C b → s ≤ b ∧ b ≠ s + 1 + 1) ∧ Hid (wr.heap[s + 1 + 1]? = some (.cells #[.int .i64 0, .int .i64 1] 3 (0, 0))) ∧ Hid (Below w1.heap.size w1 wr)) (fun i _ => 2 - (intOf i).toNat)
 case atStart => exact ⟨0, _, _, _, _, by omega, rfl, hA0, (fun b hb => by rcases hb with rfl | rfl | hb | hb <;> first | omega | (cases hb)), hlb, b0⟩
 case round =>
  obtain ⟨t, C, nv, X, D, ht, rfl, hA, hF, hl, kr⟩ := hrel
  by_cases htn : t < 2
  ·have hc0 : wr.cell? ⟨s + 1 + 1, t, none⟩ = some (.int .i64 (t : Int)) := by
    rw [cell_of_row _ (s + 1 + 1) t _ _ (0, 0) hl.out]
    obtain rfl | rfl : t = 0 ∨ t = 1 := by omega
    ·rfl
    ·rfl
   obtain ⟨htk, hnew⟩ := cst_take t htn
   have y := NB.new wr (t : Int) false none 0 0 none 0 0 false none 0 0 0 none 0 0
   have ka := below_alloc wr (.cells #[.int .i64 (t : Int), .bool false, .slice none 0 0, .slice none 0 0, .bool false, .slice none 0 0, .int .i64 0, .slice none 0 0] 39)
   have hA1 := hA.out.below ka
   have hT1 := htab1.below (grow_step ka kr.out)
   have hl1 := (ka.block (s + 1 + 1) (Array.getElem?_eq_some_iff.1 hl.out).1).trans hl.out
   have kr1 := grow_step ka kr.out
   replace y := hide y
   replace hA1 := hide hA1
   go_wp2_with fail
   clear hc0
   replace y := y.out
   replace hA1 := hA1.out
   have hq : s + 1 + 1 < wr.heap.size := (Array.getElem?_eq_some_iff.1 hl.out).1
   generalize wr.alloc (.cells #[.int .i64 (t : Int), .bool false, .slice none 0 0, .slice none 0 0, .bool false, .slice none 0 0, .int .i64 0, .slice none 0 0] 39) = wq at *
   generalize hqe : wr.heap.size = q at *
   refine wp_region_held_drew (S := (fun w' => w'.cell? ⟨q, 0, none⟩ = some (.int .i64 (t : Int)) ∧ w'.cell? ⟨q, 1, none⟩ = some (.bool false) ∧ w'.cell? ⟨q, 2, none⟩ = some (.slice none 0 0) ∧ w'.cell? ⟨q, 3, none⟩ = some (.slice none 0 0) ∧ w'.cell? ⟨q, 4, none⟩ = some (.bool false) ∧ w'.cell? ⟨q, 5, none⟩ = some (.slice none 0 0) ∧ w'.cell? ⟨q, 6, none⟩ = some (.int .i64 0) ∧ w'.cell? ⟨q, 7, none⟩ = some (.slice none 0 0))) (by kernel_rfl) (lay_S y) (fun hHeld => ?_)
   show wpAnyH _ _ _ _ _ 5 _ _ _
   refine wpAnyH_take (i := 0) (oi := ⟨some 25, _, _, _, _, _⟩) (v := ?_) rfl (by kernel_rfl) (by kernel_rfl) (by kernel_rfl) (fun _ _ _ h => h) (Or.inl ⟨by rfl, ?_⟩) (by assumption) ?_
   rotate_left
   ·intro wq hSw; (try dsimp only at hSw); go_simp; (try with_reducible rfl)
   (try simp only [Act.put, List.setIfInBounds_toArray, List.set_cons_zero, List.set_cons_succ])
   refine wpAnyH_take (i := 1) (oi := ⟨some 26, _, _, _, _, _⟩) (v := ?_) rfl (by kernel_rfl) (by kernel_rfl) (by kernel_rfl) (fun _ _ _ h => h) (Or.inl ⟨by rfl, ?_⟩) (by assumption) ?_
   rotate_left
   ·intro wq hSw; (try dsimp only at hSw); go_simp; (try with_reducible rfl)
   (try simp only [Act.put, List.setIfInBounds_toArray, List.set_cons_zero, List.set_cons_succ])
   refine wpAnyH_take (i := 2) (oi := ⟨some 27, _, _, _, _, _⟩) (v := ?_) rfl (by kernel_rfl) (by kernel_rfl) (by kernel_rfl) (fun _ _ _ h => h) (Or.inl ⟨by rfl, ?_⟩) (by assumption) ?_
   rotate_left
   ·intro wq hSw; (try dsimp only at hSw); go_simp; (try with_reducible rfl)
   (try simp only [Act.put, List.setIfInBounds_toArray, List.set_cons_zero, List.set_cons_succ])
   refine wpAnyH_ready (rs := [3]) (by kernel_rfl) (by simp) ?_
   refine AllReadyH.cons (o := ⟨some 28, _, _, _, _, _⟩) rfl (fun K hK => ?_) AllReadyH.nil
   go_simp
   refine Calls.mono (text_n (w := wq.drew) (kids := []) (ps := []) (d := 0) (k := 0) (B := 0) (zn_zero _) (by omega) (pn_nil _ _ _) (zn_zero _) (by omega) ⟨rfl, .inl rfl⟩ (by unfold I64; omega) (by unfold I64; decide) (by omega) (by omega) (by omega) hT1) ?_
   rintro e w2 ⟨rfl, k2⟩
   replace k2 := grow_step k2 (grow_drew (Below.refl _ _))
   have y := y.below k2
   have hA1 := hA1.below k2
   (try go_wp2_with fail)
   refine hK.out _ _ ?_ ?_
   ·(try dsimp only); exact lay_S y
   clear hK K hHeld; intro hHeld
   (try simp only [Act.put, List.setIfInBounds_toArray, List.set_cons_zero, List.set_cons_succ])
   refine wpAnyH_ready (rs := [4]) (by kernel_rfl) (by simp) ?_
   refine AllReadyH.cons (o := ⟨some 29, _, _, _, _, _⟩) rfl (fun K hK => ?_) AllReadyH.nil
   go_simp
   refine Calls.mono (lay_n (w := w2) (kids := []) (ps := []) (d := 0) (k := 0) hA1 (zn_zero _) (by omega) (pn_nil _ _ _) (zn_zero _) (by omega) ⟨rfl, .inl rfl⟩ (by unfold I64; omega) (by unfold I64; decide) (by omega) (by omega) (by omega) (by simp; omega) hnew (txt_length (w := w2) (ap := none) (np := 0) (ka := none) (kn := 0) (B := 0) (zn_zero _) (by omega) (pn_nil _ _ _) (zn_zero _) (by omega) ⟨rfl, .inl rfl⟩ (by unfold I64; omega) (by unfold I64; decide) (by omega) (by omega) (by omega))) ?_
   rintro e w3 ⟨rfl, C', nv', X', D', hA3, hF3, hB3⟩
   have y3 : NB w3 q (t : Int) false none 0 0 none 0 0 false none 0 0 0 none 0 0 := (hB3.block q y.lt (fun hf => by have h1 := hA.out.fl hf; omega)).trans y
   (try go_wp2_with fail)
   refine hK.out _ _ ?_ ?_
   ·(try dsimp only); exact lay_S y3
   clear hK K hHeld; intro hHeld
   (try simp only [Act.put, List.setIfInBounds_toArray, List.set_cons_zero, List.set_cons_succ])
   refine wpAnyH_done (by kernel_rfl) ?_ _
   have hA4 : Hid (AS w3 (s + 1) pm ([cst 0, cst 1].take (t + 1)) C' 2097152 nv' s X' D') := hide (by rw [htk]; exact hA3)
   have h2q : q < w2.heap.size := y.lt
   have hF4 : Hid (∀ b, FF (s + 1) s nv' C' b → s ≤ b ∧ b ≠ s + 1 + 1) := hide fun b hb => (hF3 b hb).elim (hF.out b) fun h => ⟨by omega, by omega⟩
   have hl2 := (k2.block (s + 1 + 1) (Array.getElem?_eq_some_iff.1 hl1).1).trans hl1
   have hl4 : Hid (w3.heap[s + 1 + 1]? = some (.cells #[.int .i64 0, .int .i64 1] 3 (0, 0))) := hide ((hB3.block (s + 1 + 1) (by omega) (fun hf => (hF.out _ hf).2 rfl)).trans hl2)
   have k4 : Hid (Below w1.heap.size w1 w3) := hide ((grow_step k2 kr1).trans (hB3.below (fun b hb => by have := (hF.out b hb).1; omega) (by omega)))
   clear hHeld hA3 hF3 hB3 y y3 hA1 k2 hl1 hl2 kr1 hA hF hl kr ka hT1 hA0 hlb
   go_wp2
   exact ⟨⟨t + 1, C', nv', X', D', by omega, by go_num, hA4, hF4, hl4, k4⟩, by simp [intOf]; omega⟩
  ·obtain rfl : t = 2 := by omega
   have hfin : Hid (NW w1 wr (.returned (.pointer (some ⟨s + 1, 0, none⟩))) pm) := hide ⟨s + 1, C, nv, s, X, D, rfl, hA.out, fun b hb => by have := (hF.out b hb).1; omega, kr.out⟩
   clear hA hF hl kr hA0 hlb
   go_wp2
   go_ret
   exact nw_nn hfin.out hM1 k0
end Nt
end Go.Proofs.YtjdghmkolkidpaaGreatDoor

namespace Go.Proofs.YtjdghmkolkidpaaGreatDoor
open Go.RowKit Go.Sort Go.Shelf
open Tm At
namespace Nt

/-- there is no node of this number -/
def lck (n : Nat) (id : Int) : Bool := decide (id < 0 ∨ (n : Int) ≤ id)

set_option maxRecDepth 100000 in
set_option maxHeartbeats 1600000 in
theorem index8_n {w : World} {pa pm : Nat} {L : List Nd} {C : Nat → Prop} {B : Nat} {nv : Value} {bm : Nat} {X : List NR} {D : DataW Value} {ka : Option Addr} {kc : Nat} {l : List Int} (hA : AS w pa pm L C B nv bm X D) (hI : IL w ka l.length l) (hm : l.length ≤ 4194304) :
  Calls Tryz.prog 58 #[.slice ka l.length kc, .func (.func 33) #[.pointer (some ⟨pa, 0, none⟩)] #[]] w fun x w' => ∃ i : Int, x = .returned (.int .i64 i) ∧ (decide (0 ≤ i) = l.any (lck L.length)) ∧ -1 ≤ i ∧ i < l.length ∧ w' = w := by
 go_enter Tryz.func58, Tryz.ntmps58
 go_wp2_with fail
 go_loopw [8] (fun i wr => ∃ t : Nat, t ≤ l.length ∧ i = .int .i64 t ∧ Hid ((l.take t).any (lck L.length) = false) ∧ wr = w) (fun i _ => l.length - (intOf i).toNat)
 case atStart => exact ⟨0, Nat.zero_le _, rfl, (show _ = _ by simp), rfl⟩
 case round =>
  obtain ⟨t, ht, rfl, hno, rfl⟩ := hrel
  by_cases htm : t < l.length
  ·rcases hI.2 with h0 | ⟨bp, op, rfl, hbp, hLL⟩
   ·omega
   ·obtain ⟨e0, hx⟩ := hLL t htm
    have hstep : Hid ((l.take (t + 1)).any (lck L.length) = lck L.length l[t]) := (show _ = _ by rw [List.take_succ_eq_append_getElem (l := l) (i := t) (by omega), List.any_append, hno.out]; simp)
    have hex : Hid (lck L.length l[t] = true → l.any (lck L.length) = true) := (fun hh => List.any_eq_true.2 ⟨l[t], List.getElem_mem _, hh⟩)
    generalize l[t] = lt at *
    clear hI hLL
    go_wp2_with fail
    refine (lacks_n hA lt).mono ?_
    rintro x w2 ⟨rfl, rfl⟩
    cases hil : lck L.length lt with
    | true =>
     have hany := hide (hex.out hil)
     unfold lck at hil
     rw [hil]
     clear hil
     go_wp2
     go_ret
     exact ⟨t, rfl, by rw [hany.out]; simp, by omega, by omega, rfl⟩
    | false =>
     have hst := hide (hstep.out.trans hil)
     unfold lck at hil
     rw [hil]
     clear hil
     go_wp2
     go_round
     case rel => exact ⟨t + 1, by omega, by go_num, hst, by trivial⟩
     case measure => simp [intOf]; omega
  ·obtain rfl : t = l.length := by omega
   have hall : Hid (l.any (lck L.length) = false) := by
    have h1 := hno.out
    rw [List.take_of_length_le (Nat.le_refl _)] at h1
    exact h1
   clear hno
   go_wp2
   go_ret
   exact ⟨-1, rfl, by rw [hall.out]; rfl, by omega, by omega, rfl⟩

set_option maxRecDepth 100000 in
set_option maxHeartbeats 1600000 in
theorem contains8_n {w : World} {pa pm : Nat} {L : List Nd} {C : Nat → Prop} {B : Nat} {nv : Value} {bm : Nat} {X : List NR} {D : DataW Value} {ka : Option Addr} {kc : Nat} {l : List Int} (hA : AS w pa pm L C B nv bm X D) (hI : IL w ka l.length l) (hm : l.length ≤ 4194304) :
  Calls Tryz.prog 37 #[.slice ka l.length kc, .func (.func 33) #[.pointer (some ⟨pa, 0, none⟩)] #[]] w fun x w' => x = .returned (.bool (l.any (lck L.length))) ∧ w' = w := by
 go_enter Tryz.func37, Tryz.ntmps37
 go_wp2_with fail
 refine (index8_n hA hI hm).mono ?_
 rintro x w2 ⟨i, rfl, hi, hi1, hi2, rfl⟩
 replace hi := hide hi
 go_wp2
 go_ret
 exact ⟨by rw [← hi.out]; rfl, rfl⟩
end Nt
end Go.Proofs.YtjdghmkolkidpaaGreatDoor

namespace Go.Proofs.YtjdghmkolkidpaaGreatDoor
open Go.RowKit Go.Sort Go.Shelf
open Tm At
namespace Nt

/-- what Join answers -/
def JO (w w' : World) (e : Ending) (pa pm : Nat) (L : List Nd) (C : Nat → Prop) (B : Nat) (nv : Value) (bm : Nat) (nn kk c er kd : Int) (l : List Int) : Prop :=
 if ¬ (kd = 5 ∨ kd = 6) then e = .returned (.tuple #[.int .i64 0, .int .i64 1]) ∧ w' = w
 else if l.any (lck L.length) = true then e = .returned (.tuple #[.int .i64 0, .int .i64 80]) ∧ w' = w
 else match ris l with
  | [] => e = .returned (.tuple #[.int .i64 (if kd = 5 then 1 else 0), .int .i64 0]) ∧ Below w.heap.size w w'
  | [x] => e = .returned (.tuple #[.int .i64 x, .int .i64 0]) ∧ Below w.heap.size w w'
  | x :: y :: t => MD w w' e pa pm L C B nv bm nn kk c er ⟨kd, 0, [], 0, 0, x :: y :: t⟩
theorem ris_len (l : List Int) : (ris l).length ≤ l.length := by
 have h := compact_len (l.mergeSort fun x y => decide (x ≤ y))
 rwa [List.length_mergeSort] at h

set_option maxRecDepth 100000 in
set_option maxHeartbeats 3200000 in
theorem join8_n {w : World} {pa pm : Nat} {L : List Nd} {C : Nat → Prop} {nv : Value} {bm : Nat} {X : List NR} {D : DataW Value} {nn kk c er : Int} {kd : Int} {ka : Option Addr} {kc : Nat} {l : List Int}
  (hA : AS w pa pm L C 2097152 nv bm X D) (hM : MB w pm nn kk c er) (hpm : ¬ FF pa bm nv C pm) (hc : 0 ≤ c) (hcn : c ≤ nn) (hnn : nn ≤ 2000) (he : 0 ≤ er) (he2 : er < 256) (hI : IL w ka l.length l) (hl : l.length ≤ 1048576) (hL : L.length ≤ 1048576) (htab : Tab w) :
  Calls Tryz.prog 20 #[.pointer (some ⟨pa, 0, none⟩), .int .i64 kd, .slice ka l.length kc] w fun e w' => JO w w' e pa pm L C 2097152 nv bm nn kk c er kd l := by
 by_cases hb : kd = 5 ∨ kd = 6
 ·cases ha : l.any (lck L.length) with
  | true =>
   rcases hb with rfl | rfl
   all_goals
    go_enter Tryz.func20, Tryz.ntmps20
    go_wp2_with (go_at_call 37; refine (contains8_n hA hI (by omega)).mono ?_; rintro e w1 ⟨rfl, rfl⟩; rw [ha])
    refine bodyPost_ret (results_tmp2 rfl _ _ _) rfl ?_
    unfold JO
    rw [if_neg (by decide), if_pos ha]
    exact ⟨rfl, rfl⟩
  | false =>
   have hrl := ris_len l
   rcases hb with rfl | rfl
   ·go_enter Tryz.func20, Tryz.ntmps20
    go_wp2_with (go_at_call 37; refine (contains8_n hA hI (by omega)).mono ?_; rintro e w1 ⟨rfl, rfl⟩; rw [ha])
    refine (rising_n hI (by omega)).mono ?_
    rintro e w2 ⟨a2, c2, rfl, hI2, hn2, k2⟩
    cases hr : ris l with
    | nil =>
     simp only [List.length_nil]
     clear hI2 hn2 hA hM hI htab
     go_wp2
     refine bodyPost_ret (results_tmp2 rfl _ _ _) rfl ?_
     unfold JO
     rw [if_neg (by decide), if_neg (by rw [ha]; decide), hr]
     exact ⟨rfl, k2⟩
    | cons x t =>
     cases t with
     | nil =>
      rw [hr] at hI2
      rcases hI2.2 with h0 | ⟨b, off, rfl, hb, hI3⟩
      ·exact absurd h0 (by simp)
      obtain ⟨e0, -⟩ := hI3 0 (by simp)
      simp only [Nat.add_zero, List.getElem_cons_zero] at e0
      simp only [List.length_cons, List.length_nil, Nat.zero_add]
      clear hI2 hI3 hn2 hA hM hI htab
      go_wp2
      refine bodyPost_ret (results_tmp2 rfl _ _ _) rfl ?_
      unfold JO
      rw [if_neg (by decide), if_neg (by rw [ha]; decide), hr]
      exact ⟨rfl, k2⟩
     | cons y t =>
      rw [hr] at hI2 hn2 hrl
      have hml := hM.lt
      have hkp : InF (fun b => b ≠ pm) a2 (x :: y :: t).length := fun b off e h0 => by have := hn2 b off e h0; omega
      have hl2 : 1 < (x :: y :: t).length := by simp
      generalize hgt : x :: y :: t = m at *
      generalize hgl : m.length = ml at *
      have hmade := made_n (kc := c2) (sd := false) (ad := none) (ld := 0) (cd := 0) (ap := none) (np := 0) (cp := 0) (sk := false) (ak := none) (lk := 0) (ck := 0) (d := 0) (k := 0) (ps := []) (vr := 0) (hA.below k2) (hM.below k2) hpm hc hcn hnn he he2 (zn_zero _) (by omega) (pn_nil _ _ _) (zn_zero _) (by omega) hI2 hkp (show I64 (5 : Int) by unfold I64; decide) (by unfold I64; decide) (by omega) (by omega) (by omega) hL (htab.below k2)
      replace hmade := hide hmade
      clear hI2 hA hM hI htab hkp hn2
      go_wp2_with fail
      refine hmade.out.mono ?_
      rintro e w3 hMD
      have hMD2 := hide (md_back hMD k2)
      obtain ⟨ra, rb, rfl⟩ : ∃ ra rb : Int, e = .returned (.tuple #[.int .i64 ra, .int .i64 rb]) := by
       rcases hMD with ⟨i, _, h2, _⟩ | ⟨_, _, h3, _⟩ | ⟨_, _, h3, _⟩
       ·exact ⟨_, _, h2⟩
       ·exact ⟨_, _, h3⟩
       ·exact ⟨_, _, h3⟩
      clear hMD hmade
      go_wp2
      refine bodyPost_ret (results_tmp2 rfl _ _ _) rfl ?_
      unfold JO
      rw [if_neg (by decide), if_neg (by rw [ha]; decide), hr, ← hgt]
      rw [← hgt] at hMD2
      exact hMD2.out
   ·go_enter Tryz.func20, Tryz.ntmps20
    go_wp2_with (go_at_call 37; refine (contains8_n hA hI (by omega)).mono ?_; rintro e w1 ⟨rfl, rfl⟩; rw [ha])
    refine (rising_n hI (by omega)).mono ?_
    rintro e w2 ⟨a2, c2, rfl, hI2, hn2, k2⟩
    cases hr : ris l with
    | nil =>
     simp only [List.length_nil]
     clear hI2 hn2 hA hM hI htab
     go_wp2
     refine bodyPost_ret (results_tmp2 rfl _ _ _) rfl ?_
     unfold JO
     rw [if_neg (by decide), if_neg (by rw [ha]; decide), hr]
     exact ⟨rfl, k2⟩
    | cons x t =>
     cases t with
     | nil =>
      rw [hr] at hI2
      rcases hI2.2 with h0 | ⟨b, off, rfl, hb, hI3⟩
      ·exact absurd h0 (by simp)
      obtain ⟨e0, -⟩ := hI3 0 (by simp)
      simp only [Nat.add_zero, List.getElem_cons_zero] at e0
      simp only [List.length_cons, List.length_nil, Nat.zero_add]
      clear hI2 hI3 hn2 hA hM hI htab
      go_wp2
      refine bodyPost_ret (results_tmp2 rfl _ _ _) rfl ?_
      unfold JO
      rw [if_neg (by decide), if_neg (by rw [ha]; decide), hr]
      exact ⟨rfl, k2⟩
     | cons y t =>
      rw [hr] at hI2 hn2 hrl
      have hml := hM.lt
      have hkp : InF (fun b => b ≠ pm) a2 (x :: y :: t).length := fun b off e h0 => by have := hn2 b off e h0; omega
      have hl2 : 1 < (x :: y :: t).length := by simp
      generalize hgt : x :: y :: t = m at *
      generalize hgl : m.length = ml at *
      have hmade := made_n (kc := c2) (sd := false) (ad := none) (ld := 0) (cd := 0) (ap := none) (np := 0) (cp := 0) (sk := false) (ak := none) (lk := 0) (ck := 0) (d := 0) (k := 0) (ps := []) (vr := 0) (hA.below k2) (hM.below k2) hpm hc hcn hnn he he2 (zn_zero _) (by omega) (pn_nil _ _ _) (zn_zero _) (by omega) hI2 hkp (show I64 (6 : Int) by unfold I64; decide) (by unfold I64; decide) (by omega) (by omega) (by omega) hL (htab.below k2)
      replace hmade := hide hmade
      clear hI2 hA hM hI htab hkp hn2
      go_wp2_with fail
      refine hmade.out.mono ?_
      rintro e w3 hMD
      have hMD2 := hide (md_back hMD k2)
      obtain ⟨ra, rb, rfl⟩ : ∃ ra rb : Int, e = .returned (.tuple #[.int .i64 ra, .int .i64 rb]) := by
       rcases hMD with ⟨i, _, h2, _⟩ | ⟨_, _, h3, _⟩ | ⟨_, _, h3, _⟩
       ·exact ⟨_, _, h2⟩
       ·exact ⟨_, _, h3⟩
       ·exact ⟨_, _, h3⟩
      clear hMD hmade
      go_wp2
      refine bodyPost_ret (results_tmp2 rfl _ _ _) rfl ?_
      unfold JO
      rw [if_neg (by decide), if_neg (by rw [ha]; decide), hr, ← hgt]
      rw [← hgt] at hMD2
      exact hMD2.out
 ·go_enter Tryz.func20, Tryz.ntmps20
  have h5 : (kd != 5) = true := by simp; omega
  have h6 : (kd != 6) = true := by simp; omega
  go_wp2
  refine bodyPost_ret (results_tmp2 rfl _ _ _) rfl ?_
  unfold JO
  rw [if_pos hb]
  exact ⟨rfl, rfl⟩
end Nt
end Go.Proofs.YtjdghmkolkidpaaGreatDoor

namespace Go.Proofs.YtjdghmkolkidpaaGreatDoor
open Go.RowKit Go.Sort Go.Shelf
open Tm At
namespace Nt
theorem ris_two (x : Int) : ris [x, x] = [x] := by
 unfold ris
 rw [List.mergeSort_of_pairwise (by simp)]
 simp [Lib.compact, Lib.compactUpTo, Lib.keeps, List.range_succ]
/-- a wanted node -/
structure Mk where
 kind : Int
 xk : Int
 xd : Int
 xp : List (Int × Int)
 xt : Int
 v : Int
 kids : List Int
/-- an arena's nodes, what its meter counted, what was crossed -/
structure St where
 L : List Nd
 c : Int
 er : Int
/-- the numbers of a node -/
def nums (n : Nd) : List Int := n.d :: n.k :: n.ps.map Prod.snd
/-- each node once -/
def Uq (L : List Nd) : Prop := ∀ (i j : Nat) (n : Nd), L[i]? = some n → L[j]? = some n → i = j
open Classical in
/-- two nodes alike -/
def eqn (a b : Nd) : Bool := decide (a.kind = b.kind ∧ a.d = b.d ∧ a.ps = b.ps ∧ a.k = b.k ∧ a.var = b.var ∧ a.kids = b.kids)
theorem eqn_iff (a b : Nd) : eqn a b = true ↔ a = b := by
  cases a
  cases b
  simp [eqn]
/-- where a node stands -/
def spot (L : List Nd) (n : Nd) : Nat := L.findIdx (eqn n)
theorem spot_at {L : List Nd} {n : Nd} (h : ∃ i : Nat, L[i]? = some n) : spot L n < L.length ∧ L[spot L n]? = some n := by
  obtain ⟨i, hi⟩ := h
  have h1 : spot L n < L.length := List.findIdx_lt_length_of_exists ⟨n, List.mem_of_getElem? hi, (eqn_iff n n).2 rfl⟩
  refine ⟨h1, ?_⟩
  have h2 : eqn n (L[spot L n]'h1) = true := List.findIdx_getElem (w := h1)
  rw [List.getElem?_eq_getElem h1, ← (eqn_iff _ _).1 h2]
theorem spot_no {L : List Nd} {n : Nd} (h : ¬ ∃ i : Nat, L[i]? = some n) : ¬ spot L n < L.length := fun h1 => h ⟨spot L n, by
  have h2 : eqn n (L[spot L n]'h1) = true := List.findIdx_getElem (w := h1)
  rw [List.getElem?_eq_getElem h1, ← (eqn_iff _ _).1 h2]⟩
/-- a node is asked for: it is found, refused, or made -/
def put (nn kk : Int) (s : St) (n : Nd) : St × Option Int :=
 if spot s.L n < s.L.length then (s, some (spot s.L n : Int))
 else if (mstep nn kk s.c s.er (nums n)).1 = 0 then (⟨s.L ++ [n], (mstep nn kk s.c s.er (nums n)).2.1, (mstep nn kk s.c s.er (nums n)).2.2⟩, some (s.L.length : Int))
 else (⟨s.L, (mstep nn kk s.c s.er (nums n)).2.1, (mstep nn kk s.c s.er (nums n)).2.2⟩, none)
def joinA (kd : Int) (l : List Int) : Option Int ⊕ Nd := match ris l with
 | [] => .inl (some (if kd = 5 then 1 else 0))
 | [x] => .inl (some x)
 | x :: y :: t => .inr ⟨kd, 0, [], 0, 0, x :: y :: t⟩
/-- what an atom asks for -/
def atomA (kd d : Int) (ps : List (Int × Int)) (k : Int) : Option Int ⊕ Nd := match formA kd d (nz (lays [] ps)) k with
 | .inr _ => .inl none
 | .inl f => .inr ⟨f.kind, f.d, f.ps, f.k, 0, []⟩
/-- what is answered -/
def asked (nn kk : Int) (s : St) (q : Option Int ⊕ Nd) : St × Option Int := match q with
 | .inl o => (s, o)
 | .inr n => put nn kk s n
/-- the meter's three answers -/
theorem mstep_cases (nn kk c e : Int) (zs : List Int) : (e ≠ 0 ∧ mstep nn kk c e zs = (e, c, e)) ∨ (e = 0 ∧ ∃ r, r ≠ 0 ∧ mstep nn kk c e zs = (r, c, r) ∧ (r = 70 ∨ r = 71)) ∨ (e = 0 ∧ mstep nn kk c e zs = (0, c + 1, 0) ∧ (zs.any fun z => decide (kk < (lim z : Int))) = false ∧ 1 ≤ nn - c) := by
 unfold mstep
 by_cases h : e ≠ 0
 ·rw [if_pos h]; exact .inl ⟨h, rfl⟩
 ·rw [if_neg h]
  have h0 : e = 0 := Decidable.not_not.1 h
  by_cases h1 : (zs.any fun z => decide (kk < (lim z : Int))) = true
  ·rw [if_pos h1]; exact .inr (.inl ⟨h0, 71, by decide, rfl, .inr rfl⟩)
  ·rw [if_neg h1]
   by_cases h2 : nn - c < 1
   ·rw [if_pos h2]; exact .inr (.inl ⟨h0, 70, by decide, rfl, .inl rfl⟩)
   ·rw [if_neg h2]; exact .inr (.inr ⟨h0, rfl, by simpa using h1, by omega⟩)
/-- a node that is asked for: one of three -/
theorem put_cases (nn kk : Int) (s : St) (n : Nd) :
  (∃ i : Nat, s.L[i]? = some n ∧ put nn kk s n = (s, some (i : Int))) ∨
  ((∀ i : Nat, s.L[i]? ≠ some n) ∧ s.er ≠ 0 ∧ put nn kk s n = (s, none)) ∨
  ((∀ i : Nat, s.L[i]? ≠ some n) ∧ s.er = 0 ∧ ∃ r, (r = 70 ∨ r = 71) ∧ put nn kk s n = (⟨s.L, s.c, r⟩, none)) ∨
  ((∀ i : Nat, s.L[i]? ≠ some n) ∧ s.er = 0 ∧ ((nums n).any fun z => decide (kk < (lim z : Int))) = false ∧ 1 ≤ nn - s.c ∧ put nn kk s n = (⟨s.L ++ [n], s.c + 1, 0⟩, some (s.L.length : Int))) := by
 unfold put
 by_cases h : ∃ i : Nat, s.L[i]? = some n
 ·rw [if_pos (spot_at h).1]; exact .inl ⟨spot s.L n, (spot_at h).2, rfl⟩
 ·rw [if_neg (spot_no h)]
  have hn : ∀ i : Nat, s.L[i]? ≠ some n := fun i hi => h ⟨i, hi⟩
  rcases mstep_cases nn kk s.c s.er (nums n) with ⟨h1, h2⟩ | ⟨h1, r, h2, h3, h4⟩ | ⟨h1, h2, h3, h4⟩
  ·rw [h2, if_neg h1]; exact .inr (.inl ⟨hn, h1, rfl⟩)
  ·rw [h3, if_neg h2]; exact .inr (.inr (.inl ⟨hn, h1, r, h4, rfl⟩))
  ·rw [h2, if_pos rfl]; exact .inr (.inr (.inr ⟨hn, h1, h3, h4, rfl⟩))
theorem put_found {nn kk : Int} {F : St} {n : Nd} {i : Nat} (hU : Uq F.L) (h : F.L[i]? = some n) : put nn kk F n = (F, some (i : Int)) := by
 rcases put_cases nn kk F n with ⟨j, hj, e⟩ | ⟨h2, _⟩ | ⟨h2, _⟩ | ⟨h2, _⟩
 ·rw [e, hU i j n h hj]
 ·exact absurd h (h2 i)
 ·exact absurd h (h2 i)
 ·exact absurd h (h2 i)
/-- the first state -/
def st0 : St := ⟨[cst 0, cst 1], 0, 0⟩
end Nt
end Go.Proofs.YtjdghmkolkidpaaGreatDoor

namespace Go.Proofs.YtjdghmkolkidpaaGreatDoor
open Go.RowKit Go.Sort Go.Shelf
open Tm At
namespace Nt

/-- an arena and its meter, as s tells; all its blocks lie in F -/
structure AG (w : World) (pa pm : Nat) (nn kk : Int) (s : St) (F : Nat → Prop) : Prop where
 ar : ∃ C nv bm X D, AS w pa pm s.L C 2097152 nv bm X D ∧ ¬ FF pa bm nv C pm ∧ ∀ b, FF pa bm nv C b → F b
 mb : MB w pm nn kk s.c s.er
 c0 : 0 ≤ s.c
 cn : s.c ≤ nn
 n2 : nn ≤ 2000
 e0 : 0 ≤ s.er
 e2 : s.er < 256
 ln : (s.L.length : Int) ≤ s.c + 2
 fl : ∀ b, F b → b < w.heap.size
theorem AS.uq {w : World} {pa pm : Nat} {L : List Nd} {C : Nat → Prop} {B : Nat} {nv : Value} {bm : Nat} {X : List NR} {D : DataW Value} (h : AS w pa pm L C B nv bm X D) : Uq L := by
 intro i j n hi hj
 obtain ⟨hi1, hi2⟩ := List.getElem?_eq_some_iff.1 hi
 obtain ⟨hj1, hj2⟩ := List.getElem?_eq_some_iff.1 hj
 have e1 := h.is.1 i hi1 .nil
 have e2 := h.is.1 j hj1 .nil
 rw [hi2] at e1
 rw [hj2, e1] at e2
 injection e2 with e2
 injection e2 with _ e2
 omega
theorem AG.below {w w' : World} {pa pm : Nat} {nn kk : Int} {s : St} {F : Nat → Prop} (h : AG w pa pm nn kk s F) (k : Below w.heap.size w w') : AG w' pa pm nn kk s F := by
 obtain ⟨⟨C, nv, bm, X, D, h1, h2, h3⟩, h4, h5, h6, h7, h8, h9, h10, h11⟩ := h
 exact ⟨⟨C, nv, bm, X, D, h1.below k, h2, h3⟩, h4.below k, h5, h6, h7, h8, h9, h10, fun b hb => Nat.lt_of_lt_of_le (h11 b hb) k.size⟩
/-- what a call of an arena answers -/
def AO (w w' : World) (e : Ending) (pa pm : Nat) (nn kk : Int) (F : Nat → Prop) (r : St × Option Int) : Prop :=
 ∃ x er : Int, e = .returned (.tuple #[.int .i64 x, .int .i64 er]) ∧ (r.2 = none → er ≠ 0) ∧ (∀ i, r.2 = some i → x = i ∧ er = 0) ∧ ∃ F', AG w' pa pm nn kk r.1 F' ∧ (∀ b, F' b → F b ∨ w.heap.size ≤ b) ∧ ButF (fun b => b = pm ∨ F b) w w'
theorem but_butF {w w' : World} {p : Nat} {F : Nat → Prop} (h : But p w w') : ButF (fun b => b = p ∨ F b) w w' := ⟨h.os, h.tape, h.output, h.size, fun i hi hn => h.block i hi fun e => hn (.inl e)⟩
theorem ao_now {w w' : World} {pa pm : Nat} {nn kk : Int} {s : St} {F : Nat → Prop} (hG : AG w pa pm nn kk s F) (k : Below w.heap.size w w') (i : Int) : AO w w' (.returned (.tuple #[.int .i64 i, .int .i64 0])) pa pm nn kk F (s, some i) :=
 ⟨i, 0, rfl, fun h => (by cases h), fun j h => (by cases h; exact ⟨rfl, rfl⟩), F, hG.below k, fun _ h => .inl h, butF_below k⟩
theorem ao_not {w w' : World} {pa pm : Nat} {nn kk : Int} {s : St} {F : Nat → Prop} (hG : AG w pa pm nn kk s F) (k : Below w.heap.size w w') {x er : Int} (he : er ≠ 0) : AO w w' (.returned (.tuple #[.int .i64 x, .int .i64 er])) pa pm nn kk F (s, none) :=
 ⟨x, er, rfl, fun _ => he, fun j h => (by cases h), F, hG.below k, fun _ h => .inl h, butF_below k⟩
theorem md_ao {w w' : World} {e : Ending} {pa pm : Nat} {nn kk : Int} {s : St} {F C : Nat → Prop} {nv : Value} {bm : Nat} {X : List NR} {D : DataW Value} {n : Nd} (hG : AG w pa pm nn kk s F) (hA : AS w pa pm s.L C 2097152 nv bm X D) (hpm : ¬ FF pa bm nv C pm) (hF : ∀ b, FF pa bm nv C b → F b) (h : MD w w' e pa pm s.L C 2097152 nv bm nn kk s.c s.er n) : AO w w' e pa pm nn kk F (put nn kk s n) := by
 have hn : n ∉ s.L → ¬ ∃ i : Nat, s.L[i]? = some n := fun h ⟨i, hi⟩ => h (List.mem_of_getElem? hi)
 have h0 := hG.c0
 have h1 := hG.cn
 have h2 := hG.n2
 have h3 := hG.e0
 have h4 := hG.e2
 have h5 := hG.ln
 rcases h with ⟨i, g1, rfl, k⟩ | ⟨g1, g2, rfl, g4, k⟩ | ⟨g1, g2, rfl, g4, C', nv', X', D', g5, g6, g7⟩
 ·rw [put_found hA.uq g1]
  exact ao_now hG k i
 ·change (mstep nn kk s.c s.er (nums n)).1 ≠ 0 at g2
  change MB w' pm nn kk (mstep nn kk s.c s.er (nums n)).2.1 (mstep nn kk s.c s.er (nums n)).2.2 at g4
  have hA' : AS w' pa pm s.L C 2097152 nv bm X D := hA.move k.size fun b hb => k.block b (hA.fl hb) fun e => hpm (e ▸ hb)
  unfold put
  rw [if_neg (spot_no (hn g1)), if_neg g2]
  refine ⟨_, _, rfl, fun _ => g2, fun i h => (by cases h), F, ⟨⟨C, nv, bm, X, D, hA', hpm, hF⟩, g4, ?_, ?_, h2, ?_, ?_, ?_, fun b hb => Nat.lt_of_lt_of_le (hG.fl b hb) k.size⟩, fun b hb => .inl hb, but_butF k⟩
  all_goals
   rcases mstep_cases nn kk s.c s.er (nums n) with ⟨a1, a2⟩ | ⟨a1, r, a2, a3, a4⟩ | ⟨a1, a2, a3, a4⟩
  all_goals
   first
    | (rw [a2]; dsimp only; omega)
    | (rw [a3]; dsimp only; omega)
 ·change (mstep nn kk s.c s.er (nums n)).1 = 0 at g2
  change MB w' pm nn kk (mstep nn kk s.c s.er (nums n)).2.1 (mstep nn kk s.c s.er (nums n)).2.2 at g4
  unfold put
  rw [if_neg (spot_no (hn g1)), if_pos g2]
  have hpm' : ¬ FF pa bm nv' C' pm := fun hf => (g6 pm hf).elim hpm fun h => absurd (hG.mb.lt) (by omega)
  refine ⟨_, _, rfl, fun h => (by cases h), fun i h => (by cases h; exact ⟨rfl, rfl⟩), FF pa bm nv' C', ⟨⟨C', nv', bm, X', D', g5, hpm', fun _ hb => hb⟩, g4, ?_, ?_, h2, ?_, ?_, ?_, fun b hb => g5.fl hb⟩, fun b hb => (g6 b hb).imp (hF b) id, g7.mono fun b hb => hb.imp id (hF b)⟩
  all_goals
   rcases mstep_cases nn kk s.c s.er (nums n) with ⟨a1, a2⟩ | ⟨a1, r, a2, a3, a4⟩ | ⟨a1, a2, a3, a4⟩
  all_goals
   first
    | (rw [a2] at g2; exact absurd g2 a1)
    | (rw [a3] at g2; exact absurd g2 a2)
    | (rw [a2]; dsimp only; simp only [List.length_append, List.length_cons, List.length_nil]; omega)
    | (rw [a2]; dsimp only; omega)

theorem atom_ao {w : World} {pa pm : Nat} {nn kk : Int} {s : St} {F : Nat → Prop} {kd : Int} {sd : Bool} {ad : Option Addr} {ld cd : Nat} {ap : Option Addr} {np cp : Nat} {sk : Bool} {ak : Option Addr} {lk ck : Nat} {d k : Int} {ps : List (Int × Int)} {B : Nat}
  (hG : AG w pa pm nn kk s F) (hd : Zm w sd ad ld cd d) (hld : ld ≤ B) (hP : Pr w ap np ps B) (hk : Zm w sk ak lk ck k) (hlk : lk ≤ B) (hn : np ≤ 209716) (hB : B ≤ 1048576) (htab : Tab w) :
  Calls Tryz.prog 19 #[.pointer (some ⟨pa, 0, none⟩), .agg #[.int .i64 kd, .bool sd, .slice ad ld cd, .slice ap np cp, .bool sk, .slice ak lk ck]] w fun e w' => AO w w' e pa pm nn kk F (asked nn kk s (atomA kd d ps k)) := by
 obtain ⟨C, nv, bm, X, D, hA, hpm, hF⟩ := hG.ar
 have h1 := hG.cn
 have h2 := hG.n2
 have h3 := hG.ln
 refine (atom8_n hA hG.mb hpm hG.c0 hG.cn hG.n2 hG.e0 hG.e2 hd hld hP hk hlk hn hB (by omega) htab).mono ?_
 intro e w' h
 unfold AM at h
 unfold atomA
 cases hf : formA kd d (nz (lays [] ps)) k with
 | inr er =>
  rw [hf] at h
  obtain ⟨rfl, kb⟩ := h
  exact ao_not hG kb (by rcases formA_er hf with rfl | rfl <;> decide)
 | inl f =>
  rw [hf] at h
  exact md_ao hG hA hpm hF h

theorem join_ao {w : World} {pa pm : Nat} {nn kk : Int} {s : St} {F : Nat → Prop} {kd : Int} {ka : Option Addr} {kc : Nat} {l : List Int} (hkd : kd = 5 ∨ kd = 6)
  (hG : AG w pa pm nn kk s F) (hI : IL w ka l.length l) (hl : l.length ≤ 1048576) (hi : ∀ x ∈ l, 0 ≤ x ∧ x < (s.L.length : Int)) (htab : Tab w) :
  Calls Tryz.prog 20 #[.pointer (some ⟨pa, 0, none⟩), .int .i64 kd, .slice ka l.length kc] w fun e w' => AO w w' e pa pm nn kk F (asked nn kk s (joinA kd l)) := by
 obtain ⟨C, nv, bm, X, D, hA, hpm, hF⟩ := hG.ar
 have h1 := hG.cn
 have h2 := hG.n2
 have h3 := hG.ln
 refine (join8_n hA hG.mb hpm hG.c0 hG.cn hG.n2 hG.e0 hG.e2 hI hl (by omega) htab).mono ?_
 intro e w' h
 unfold JO at h
 rw [if_neg (fun h => h hkd), if_neg (by
  intro ha
  obtain ⟨x, hx, hx2⟩ := List.any_eq_true.1 ha
  have := hi x hx
  unfold lck at hx2
  simp at hx2
  omega)] at h
 unfold joinA
 cases hr : ris l with
 | nil =>
  rw [hr] at h
  obtain ⟨rfl, kb⟩ := h
  exact ao_now hG kb _
 | cons x t =>
  cases t with
  | nil =>
   rw [hr] at h
   obtain ⟨rfl, kb⟩ := h
   exact ao_now hG kb _
  | cons y t =>
   rw [hr] at h
   exact md_ao hG hA hpm hF h

theorem bind_ao {w : World} {pa pm : Nat} {nn kk : Int} {s : St} {F : Nat → Prop} {kd v kid : Int} (hkd : kd = 7 ∨ kd = 8)
  (hG : AG w pa pm nn kk s F) (hv : I64 v) (hi : 0 ≤ kid ∧ kid < (s.L.length : Int)) (htab : Tab w) :
  Calls Tryz.prog 21 #[.pointer (some ⟨pa, 0, none⟩), .int .i64 kd, .int .i64 v, .int .i64 kid] w fun e w' => AO w w' e pa pm nn kk F (asked nn kk s (.inr ⟨kd, 0, [], 0, v, [kid]⟩)) := by
 obtain ⟨C, nv, bm, X, D, hA, hpm, hF⟩ := hG.ar
 have h1 := hG.cn
 have h2 := hG.n2
 have h3 := hG.ln
 refine (bind8_n hA hG.mb hpm hG.c0 hG.cn hG.n2 hG.e0 hG.e2 hv (by unfold I64; omega) (by omega) htab).mono ?_
 intro e w' h
 unfold BI at h
 rw [if_neg (fun h => h hkd), if_neg (by omega)] at h
 exact md_ao hG hA hpm hF h
/-- New without a meter, in these words -/
theorem new_ag {w : World} (htab : Tab w) : Calls Tryz.prog 8 #[.pointer none] w fun e w' => ∃ pa pm F, e = .returned (.pointer (some ⟨pa, 0, none⟩)) ∧ AG w' pa pm 2000 8 st0 F ∧ (∀ b, F b → w.heap.size ≤ b) ∧ w.heap.size ≤ pm ∧ Below w.heap.size w w' := by
 refine (newN_n htab).mono ?_
 rintro e w' ⟨pm, pa, C, nv, bm, X, D, rfl, hA, hM, hpm, hF, hpw, k⟩
 exact ⟨pa, pm, FF pa bm nv C, rfl, ⟨⟨C, nv, bm, X, D, hA, hpm, fun _ hb => hb⟩, hM, by decide, by decide, by decide, by decide, by decide, by decide, fun b hb => hA.fl hb⟩, hF, hpw, k⟩
theorem len_ag {w : World} {pa pm : Nat} {nn kk : Int} {s : St} {F : Nat → Prop} (hG : AG w pa pm nn kk s F) : Calls Tryz.prog 10 #[.pointer (some ⟨pa, 0, none⟩)] w fun e w' => e = .returned (.int .i64 (s.L.length : Int)) ∧ w' = w := by
 obtain ⟨C, nv, bm, X, D, hA, hpm, hF⟩ := hG.ar
 exact len8_n hA
end Nt
end Go.Proofs.YtjdghmkolkidpaaGreatDoor

namespace Go.Proofs.YtjdghmkolkidpaaGreatDoor
open Go.RowKit Go.Sort Go.Shelf
open Tm At
namespace Nt

set_option maxRecDepth 100000 in
set_option maxHeartbeats 1600000 in
theorem lacks_nil {w : World} (id : Int) : Calls Tryz.prog 33 #[.pointer none, .int .i64 id] w fun e w' => e = .returned (.bool true) ∧ w' = w := by
 go_enter Tryz.func33, Tryz.ntmps33
 by_cases h : id < 0
 ·go_wp2
  go_ret
  exact ⟨rfl, rfl⟩
 ·go_wp2_with (go_at_call 10; refine len8_nil.mono ?_; rintro e w1 ⟨rfl, rfl⟩)
  go_ret
  exact ⟨rfl, rfl⟩

set_option maxRecDepth 100000 in
set_option maxHeartbeats 1600000 in
theorem atom8_nil {w : World} (kd : Int) (sd : Bool) (ad : Option Addr) (ld cd : Nat) (ap : Option Addr) (np cp : Nat) (sk : Bool) (ak : Option Addr) (lk ck : Nat) :
  Calls Tryz.prog 19 #[.pointer none, .agg #[.int .i64 kd, .bool sd, .slice ad ld cd, .slice ap np cp, .bool sk, .slice ak lk ck]] w fun e w' => e = .returned (.tuple #[.int .i64 0, .int .i64 1]) ∧ Below w.heap.size w w' := by
 have b0 := below_alloc w (.cells #[.int .i64 kd, .bool sd, .slice ad ld cd, .slice ap np cp, .bool sk, .slice ak lk ck] 52)
 go_enter Tryz.func19, Tryz.ntmps19
 go_wp2
 refine bodyPost_ret (results_tmp2 rfl _ _ _) rfl ?_
 exact ⟨rfl, b0⟩

set_option maxRecDepth 100000 in
set_option maxHeartbeats 1600000 in
theorem join8_nil {w : World} (kd : Int) (ka : Option Addr) (kn kc : Nat) :
  Calls Tryz.prog 20 #[.pointer none, .int .i64 kd, .slice ka kn kc] w fun e w' => e = .returned (.tuple #[.int .i64 0, .int .i64 1]) ∧ w' = w := by
 go_enter Tryz.func20, Tryz.ntmps20
 go_wp2
 refine bodyPost_ret (results_tmp2 rfl _ _ _) rfl ?_
 exact ⟨rfl, rfl⟩

set_option maxRecDepth 100000 in
set_option maxHeartbeats 1600000 in
theorem bind8_nil {w : World} (kd v kid : Int) :
  Calls Tryz.prog 21 #[.pointer none, .int .i64 kd, .int .i64 v, .int .i64 kid] w fun e w' => e = .returned (.tuple #[.int .i64 0, .int .i64 1]) ∧ w' = w := by
 go_enter Tryz.func21, Tryz.ntmps21
 go_wp2
 refine bodyPost_ret (results_tmp2 rfl _ _ _) rfl ?_
 exact ⟨rfl, rfl⟩

set_option maxRecDepth 100000 in
set_option maxHeartbeats 1600000 in
theorem node8_nil {w : World} (id : Int) :
  Calls Tryz.prog 14 #[.pointer none, .int .i64 id] w fun e w' => e = .returned (.tuple #[.agg #[.int .i64 0, .bool false, .slice none 0 0, .slice none 0 0, .bool false, .slice none 0 0, .int .i64 0, .slice none 0 0], .bool false]) ∧ Below w.heap.size w w' := by
 have b0 := below_alloc w (.cells #[.int .i64 0, .bool false, .slice none 0 0, .slice none 0 0, .bool false, .slice none 0 0, .int .i64 0, .slice none 0 0] 39)
 have y := NB.new w 0 false none 0 0 none 0 0 false none 0 0 0 none 0 0
 go_enter Tryz.func14, Tryz.ntmps14
 go_wp2_with (go_at_call 33; refine (lacks_nil id).mono ?_; rintro e w1 ⟨rfl, rfl⟩)
 refine bodyPost_ret (results_ct rfl _ _ w.heap.size 39 _ (0, 0) _ rfl y Tryz.underlying39 rfl (by kernel_rfl)) rfl ?_
 exact ⟨rfl, b0⟩

set_option maxRecDepth 100000 in
set_option maxHeartbeats 1600000 in
theorem release8_nil {w : World} (n : Int) :
  Calls Tryz.prog 16 #[.pointer none, .int .i64 n] w fun e w' => e = .returned (.int .i64 1) ∧ w' = w := by
 go_enter Tryz.func16, Tryz.ntmps16
 by_cases h : n < 2
 ·go_wp2
  go_ret
  exact ⟨rfl, rfl⟩
 ·go_wp2_with (go_at_call 10; refine len8_nil.mono ?_; rintro e w1 ⟨rfl, rfl⟩)
  go_ret
  exact ⟨rfl, rfl⟩

set_option maxRecDepth 100000 in
set_option maxHeartbeats 1600000 in
theorem reach8_nil {w : World} (id : Int) :
  Calls Tryz.prog 23 #[.pointer none, .int .i64 id] w fun e w' => e = .returned (.slice none 0 0) ∧ w' = w := by
 go_enter Tryz.func23, Tryz.ntmps23
 go_wp2_with (go_at_call 33; refine (lacks_nil id).mono ?_; rintro e w1 ⟨rfl, rfl⟩)
 go_ret
 exact ⟨rfl, rfl⟩

set_option maxRecDepth 100000 in
set_option maxHeartbeats 1600000 in
theorem plain8_nil {w : World} (id : Int) :
  Calls Tryz.prog 24 #[.pointer none, .int .i64 id] w fun e w' => e = .returned (.bool false) ∧ w' = w := by
 go_enter Tryz.func24, Tryz.ntmps24
 go_wp2_with (go_at_call 33; refine (lacks_nil id).mono ?_; rintro e w1 ⟨rfl, rfl⟩)
 go_ret
 exact ⟨rfl, rfl⟩

set_option maxRecDepth 100000 in
set_option maxHeartbeats 1600000 in
theorem meter8_nil {w : World} :
  Calls Tryz.prog 11 #[.pointer none] w fun e w' => e = .returned (.pointer none) ∧ w' = w := by
 go_enter Tryz.func11, Tryz.ntmps11
 go_wp2
 go_ret
 exact ⟨rfl, rfl⟩

set_option maxRecDepth 100000 in
set_option maxHeartbeats 1600000 in
theorem rising_nil {w : World} : Calls Tryz.prog 38 #[.slice none 0 0] w fun e w' => ∃ a c, e = .returned (.slice a 0 c) ∧ Below w.heap.size w w' := by
 refine (rising_n (l := []) (kc := 0) ⟨rfl, .inl rfl⟩ (by simp)).mono ?_
 rintro e w1 ⟨a, c, rfl, _, _, k⟩
 exact ⟨a, c, by rw [ris_nil]; rfl, k⟩

set_option maxRecDepth 100000 in
set_option maxHeartbeats 1600000 in
theorem bound8_nil {w : World} : Calls Tryz.prog 40 #[.pointer none, .slice none 0 0] w fun e w' => ∃ a c, e = .returned (.slice a 0 c) ∧ Below w.heap.size w w' := by
 go_enter Tryz.func40, Tryz.ntmps40
 go_wp2_with fail
 go_loopw [5, 10] (fun vv i wr => vv = .slice none 0 0 ∧ i = .int .i64 0 ∧ wr = w) (fun _ _ _ => 0)
 case atStart => exact ⟨rfl, rfl, rfl⟩
 case round =>
  obtain ⟨rfl, rfl, rfl⟩ := hrel
  go_wp2_with (go_at_call 38; refine rising_nil.mono ?_; rintro e w2 ⟨a2, c2, rfl, k2⟩)
  go_ret
  exact ⟨a2, c2, rfl, k2⟩

set_option maxRecDepth 100000 in
set_option maxHeartbeats 1600000 in
theorem open8_nil {w : World} (a : Option Addr) (c : Nat) : Calls Tryz.prog 41 #[.pointer none, .slice none 0 0, .slice a 0 c] w fun e w' => e = .returned (.slice none 0 0) ∧ w' = w := by
 go_enter Tryz.func41, Tryz.ntmps41
 go_wp2
 go_ret
 exact ⟨rfl, rfl⟩

set_option maxRecDepth 100000 in
set_option maxHeartbeats 1600000 in
theorem free8_nil {w : World} (id : Int) : Calls Tryz.prog 22 #[.pointer none, .int .i64 id] w fun e w' => ∃ a c, e = .returned (.slice a 0 c) ∧ Below w.heap.size w w' := by
 go_enter Tryz.func22, Tryz.ntmps22
 go_wp2_with fail
 refine (reach8_nil id).mono ?_
 rintro e w1 ⟨rfl, rfl⟩
 go_wp2_with fail
 refine bound8_nil.mono ?_
 rintro e w2 ⟨a2, c2, rfl, k2⟩
 go_wp2_with fail
 refine (open8_nil _ _).mono ?_
 rintro e w3 ⟨rfl, rfl⟩
 go_wp2_with fail
 go_loopw [8, 27] (fun vv i wr => vv = .slice none 0 0 ∧ i = .int .i64 0 ∧ wr = w3) (fun _ _ _ => 0)
 case atStart => exact ⟨rfl, rfl, rfl⟩
 case round =>
  obtain ⟨rfl, rfl, rfl⟩ := hrel
  go_wp2_with (go_at_call 38; refine rising_nil.mono ?_; rintro e w4 ⟨a4, c4, rfl, k4⟩)
  go_ret
  exact ⟨a4, c4, rfl, grow_step k4 k2⟩
end Nt
end Go.Proofs.YtjdghmkolkidpaaGreatDoor

namespace Go.Proofs.YtjdghmkolkidpaaGreatDoor
open Go.RowKit Go.Sort Go.Shelf
open Tm At
namespace Nt

/-- the atom of a variable -/
theorem form_v3 : formA 2 0 (nz (lays [] [(3, 1)])) 0 = .inl ⟨2, 0, [(3, 1)], 0⟩ := by rfl
theorem put_made {nn kk : Int} {s : St} {n : Nd} (h : ∀ i : Nat, s.L[i]? ≠ some n) (he : s.er = 0) (hl : ((nums n).any fun z => decide (kk < (lim z : Int))) = false) (hc : 1 ≤ nn - s.c) : put nn kk s n = (⟨s.L ++ [n], s.c + 1, 0⟩, some (s.L.length : Int)) := by
 unfold put
 rw [if_neg (spot_no (fun ⟨i, hi⟩ => h i hi))]
 have h7 : mstep nn kk s.c s.er (nums n) = (0, s.c + 1, 0) := by
  unfold mstep
  rw [if_neg (by simp [he]), if_neg (by rw [hl]; simp), if_neg (by omega)]
 rw [h7, if_pos rfl]
theorem lim_0 : lim 0 = 0 := by
 unfold lim
 rw [show (0 : Int).natAbs = 0 from rfl]
 rw [limbs_def]
 rfl
theorem lim_1 : lim 1 = 1 := by
 unfold lim
 rw [show (1 : Int).natAbs = 1 from rfl]
 rw [limbs_def]
 rw [dif_neg (by decide), show 1 / 4294967296 = 0 from rfl]
 rw [limbs_def]
 rfl
def nd1 : Nd := ⟨2, 0, [(3, 1)], 0, 0, []⟩
def nd2 : Nd := ⟨7, 0, [], 0, 3, [2]⟩
theorem not_in {L : List Nd} {n : Nd} (h : ∀ x ∈ L, x.kind ≠ n.kind) (i : Nat) : L[i]? ≠ some n := fun hi => h n (List.mem_of_getElem? hi) rfl
theorem put_1 : put 2000 8 st0 nd1 = (⟨[cst 0, cst 1, nd1], 1, 0⟩, some 2) := by
 rw [put_made (not_in (by simp [st0, cst, nd1])) rfl (by simp [nums, nd1, lim_0, lim_1]) (by decide)]
 rfl
theorem put_2 : put 2000 8 ⟨[cst 0, cst 1, nd1], 1, 0⟩ nd2 = (⟨[cst 0, cst 1, nd1, nd2], 2, 0⟩, some 3) := by
 rw [put_made (not_in (by simp [cst, nd1, nd2])) rfl (by simp [nums, nd2, lim_0]) (by decide)]
 rfl

set_option maxRecDepth 100000 in
set_option maxHeartbeats 3200000 in
theorem awake8_n {w : World} (htab : Tab w) : Calls Tryz.prog 7 #[] w fun e w' => e = .returned (.bool true) ∧ Below w.heap.size w w' := by
 have ht0 := hide htab
 replace ht0 := ht0.out
 go_enter Tryz.func7, Tryz.ntmps7
 go_wp2_with fail
 refine (new_ag htab).mono ?_
 rintro e w1 ⟨pa, pm, F, rfl, hG, hF, hpw, k1⟩
 have ht1 := htab.below k1
 replace hG := hide hG
 replace k1 := hide k1
 go_wp2_with fail
 refine (tvar_n (v := 3) (B := 2) (by unfold I64; decide) (by omega)).mono ?_
 rintro e w2 ⟨ad2, cp2, rs2, rfl, hT2, hr2⟩
 obtain ⟨hP2, hZ2, hl2⟩ := hT2.tw
 rw [hr2] at hP2
 have k2 := hT2.below
 replace hG := hide (hG.out.below k2)
 have ht2 := ht1.below k2
 replace k1 := hide (grow_step k2 k1.out)
 clear hT2 k2 ht1
 go_wp2_with fail
 refine (atom_ao (B := 2) hG.out (zn_zero _).zm (by omega) hP2 hZ2 hl2 (by omega) (by omega) ht2).mono ?_
 rintro e w3 ⟨x3, e3, rfl, -, hx3, F3, hG3, hF3, hB3⟩
 have hput : asked 2000 8 st0 (atomA 2 0 [(3, 1)] 0) = (⟨[cst 0, cst 1, nd1], 1, 0⟩, some 2) := by unfold atomA; rw [form_v3]; exact put_1
 rw [hput] at hx3 hG3
 clear hput
 obtain ⟨rfl, rfl⟩ := hx3 2 rfl
 have k3 : Hid (Below w.heap.size w w3) := hide (k1.out.trans (hB3.below (fun b hb => hb.elim (fun e => by omega) (hF b)) k1.out.size))
 replace hF3 : ∀ b, F3 b → w.heap.size ≤ b := fun b hb => by
  rcases hF3 b hb with h | h
  ·exact hF b h
  ·exact Nat.le_trans k1.out.size h
 have kc := below_alloc w3 (.cells #[.int .i64 2, .int .i64 2] 3)
 have hc0 : (w3.alloc (.cells #[.int .i64 2, .int .i64 2] 3)).heap[w3.heap.size]? = some (.cells #[.int .i64 2, .int .i64 2] 3 (0, 0)) := heap_alloc_new w3 _
 have hI3 : Hid (IL (w3.alloc (.cells #[.int .i64 2, .int .i64 2] 3)) (some ⟨w3.heap.size, 0, none⟩) ([2, 2] : List Int).length [2, 2]) := hide ⟨rfl, .inr ⟨w3.heap.size, 0, rfl, by simp, fun i hi => by
  obtain rfl | rfl : i = 0 ∨ i = 1 := by simp at hi; omega
  ·exact ⟨cell_of_row _ w3.heap.size 0 _ _ (0, 0) hc0, show I64 2 by unfold I64; decide⟩
  ·exact ⟨cell_of_row _ w3.heap.size 1 _ _ (0, 0) hc0, show I64 2 by unfold I64; decide⟩⟩⟩
 replace hG3 := hide (hG3.below kc)
 have ht3 := hide (htab.below (grow_step kc k3.out))
 replace k3 := hide (grow_step kc k3.out)
 clear hx3 hB3 hG hP2 hZ2 hl2 ht2 hr2 hF k1 kc hc0 htab
 go_wp2_with fail
 generalize w3.alloc (.cells #[.int .i64 2, .int .i64 2] 3) = w4 at *
 refine (join_ao (kd := 5) (kc := 2) (l := [2, 2]) (.inl rfl) hG3.out hI3.out (by simp) (by simp) ht3.out).mono ?_
 rintro e w5 ⟨x5, e5, rfl, -, hx5, F5, hG5, hF5, hB5⟩
 have hj : asked 2000 8 ⟨[cst 0, cst 1, nd1], 1, 0⟩ (joinA 5 [2, 2]) = (⟨[cst 0, cst 1, nd1], 1, 0⟩, some 2) := by unfold joinA; rw [ris_two]; rfl
 rw [hj] at hx5 hG5
 clear hj
 obtain ⟨rfl, rfl⟩ := hx5 2 rfl
 have k5 : Hid (Below w.heap.size w w5) := hide (k3.out.trans (hB5.below (fun b hb => hb.elim (fun e => by omega) (hF3 b)) k3.out.size))
 replace hF5 : ∀ b, F5 b → w.heap.size ≤ b := fun b hb => by
  rcases hF5 b hb with h | h
  ·exact hF3 b h
  ·exact Nat.le_trans k3.out.size h
 have ht5 := hide (ht0.below k5.out)
 replace hG5 := hide hG5
 clear hx5 hB5 hG3 hI3 hF3 k3 ht3
 go_wp2_with fail
 refine (bind_ao (kd := 7) (v := 3) (kid := 2) (.inl rfl) hG5.out (by unfold I64; decide) (by simp) ht5.out).mono ?_
 rintro e w6 ⟨x6, e6, rfl, -, hx6, F6, hG6, hF6, hB6⟩
 have hj : asked 2000 8 ⟨[cst 0, cst 1, nd1], 1, 0⟩ (.inr ⟨7, 0, [], 0, 3, [2]⟩) = (⟨[cst 0, cst 1, nd1, nd2], 2, 0⟩, some 3) := put_2
 rw [hj] at hx6 hG6
 clear hj
 obtain ⟨rfl, rfl⟩ := hx6 3 rfl
 have k6 : Hid (Below w.heap.size w w6) := hide (k5.out.trans (hB6.below (fun b hb => hb.elim (fun e => by omega) (hF5 b)) k5.out.size))
 have hlen := hide (len_ag hG6)
 clear hx6 hB6 hG5 hF5 hF6 k5 ht5 hG6
 go_wp2_with (go_at_call 10; refine hlen.out.mono ?_; rintro e w7 ⟨rfl, rfl⟩)
 go_ret
 exact ⟨rfl, k6.out⟩
end Nt
end Go.Proofs.YtjdghmkolkidpaaGreatDoor

namespace Go.Proofs.YtjdghmkolkidpaaGreatDoor
open Go.RowKit Go.Sort Go.Shelf
open Tm At
open Nt

set_option maxRecDepth 100000 in
set_option maxHeartbeats 3200000 in
theorem arenaNil_walk {w : World} (kd : Int) (sd : Bool) (ad : Option Addr) (ld cd : Nat) (ap : Option Addr) (np cp : Nat) (sk : Bool) (ak : Option Addr) (lk ck : Nat) (kind v : Int) (ka : Option Addr) (kn kc : Nat) (htab : Tab w) :
  Calls Tryz.prog 6 #[.agg #[.int .i64 kd, .bool sd, .slice ad ld cd, .slice ap np cp, .bool sk, .slice ak lk ck], .int .i64 kind, .int .i64 v, .slice ka kn kc] w fun e w' => e = .returned (.bool true) ∧ Below w.heap.size w w' := by
 have b0 := below_alloc w (.cells #[.int .i64 kd, .bool sd, .slice ad ld cd, .slice ap np cp, .bool sk, .slice ak lk ck] 52)
 have x := AB.new w kd sd ad ld cd ap np cp sk ak lk ck
 go_enter Tryz.func6, Tryz.ntmps6
 go_wp2_with fail
 replace htab := htab.below b0
 generalize w.alloc (.cells #[.int .i64 kd, .bool sd, .slice ad ld cd, .slice ap np cp, .bool sk, .slice ak lk ck] 52) = wb at *
 generalize hp : w.heap.size = p at *
 replace b0 : Hid (Below w.heap.size w wb) := hp ▸ b0
 refine (awake8_n htab).mono ?_
 rintro e w1 ⟨rfl, k1⟩
 replace x := x.below k1
 replace k1 := grow_step k1 b0.out
 clear b0
 have u0 := x.c0
 have u1 := x.c1
 have u2 := x.c2
 have u3 := x.c3
 have u4 := x.c4
 have u5 := x.c5
 go_wp2_with fail
 clear u0 u1 u2 u3 u4 u5 x
 refine (atom8_nil kd sd ad ld cd ap np cp sk ak lk ck).mono ?_
 rintro e w2 ⟨rfl, k2⟩
 replace k2 := hide (grow_step k2 k1)
 clear k1
 go_wp2_with fail
 refine (join8_nil kind ka kn kc).mono ?_
 rintro e w3 ⟨rfl, rfl⟩
 go_wp2_with fail
 refine (bind8_nil kind v v).mono ?_
 rintro e w4 ⟨rfl, rfl⟩
 go_wp2_with fail
 refine (node8_nil v).mono ?_
 rintro e w5 ⟨rfl, k5⟩
 replace k5 := hide (grow_step k5 k2.out)
 clear k2
 go_wp2_with fail
 have y := NB.new w5 0 false none 0 0 none 0 0 false none 0 0 0 none 0 0
 have b5 := below_alloc w5 (.cells #[.int .i64 0, .bool false, .slice none 0 0, .slice none 0 0, .bool false, .slice none 0 0, .int .i64 0, .slice none 0 0] 39)
 replace k5 := hide (grow_step b5 k5.out)
 clear b5
 generalize w5.alloc (.cells #[.int .i64 0, .bool false, .slice none 0 0, .slice none 0 0, .bool false, .slice none 0 0, .int .i64 0, .slice none 0 0] 39) = w6 at *
 generalize w5.heap.size = q at *
 refine (release8_nil v).mono ?_
 rintro e w7 ⟨rfl, rfl⟩
 go_wp2_with fail
 refine (free8_nil v).mono ?_
 rintro e w8 ⟨a8, c8, rfl, k8⟩
 replace y := y.below k8
 replace k8 := hide (grow_step k8 k5.out)
 clear k5
 go_wp2_with fail
 refine (reach8_nil v).mono ?_
 rintro e w9 ⟨rfl, rfl⟩
 go_wp2_with fail
 refine (plain8_nil v).mono ?_
 rintro e w10 ⟨rfl, rfl⟩
 go_wp2_with fail
 refine meter8_nil.mono ?_
 rintro e w11 ⟨rfl, rfl⟩
 have u0 := y.c0
 have u7 := y.c7
 go_wp2_with (go_at_call 10; refine len8_nil.mono ?_; rintro e w12 ⟨rfl, rfl⟩)
 go_ret
 exact ⟨rfl, k8.out⟩
end Go.Proofs.YtjdghmkolkidpaaGreatDoor
