/-
 Several texts in one: YJ, YK, YU, YV, YL.
-/
import Derived.Test.YtagjfhipjbpoiaaQ17
import Derived.Laws.CopyRow
import Derived.Test.YtagjfhipjbpoiaaQ09
import Derived.Test.YtagjfhipjbpoiaaQ16
namespace Go.Proofs.Ytagjfhipjbpoiaa
open Go.RowKit Go.Sort Go.Shelf
open Tm

/-- a part that is nothing -/
def zr : Raw := ⟨0, false, none, 0, 0, 0⟩
/-- block g holds just these parts -/
def RB (w : World) (g : Nat) (L : List Raw) : Prop := w.heap[g]? = some (.cells (flat L).toArray 62 (0, 0))
theorem RB.lt {w : World} {g : Nat} {L : List Raw} (h : RB w g L) : g < w.heap.size := (Array.getElem?_eq_some_iff.1 h).1
theorem RB.below {w w' : World} {g : Nat} {L : List Raw} (h : RB w g L) (hb : Below w.heap.size w w') : RB w' g L := (hb.block g h.lt).trans h
theorem RB.grown {w w' : World} {g m : Nat} {L : List Raw} (h : RB w g L) (hg : w.grownBy w' (some m)) (hm : g ≠ m) : RB w' g L := (hg.block g h.lt (by simpa using hm)).trans h
theorem RB.cell {w : World} {g : Nat} {L : List Raw} (h : RB w g L) {i c : Nat} (hi : i < L.length) (hc : c < 3) : w.cell? ⟨g, i * 3 + c, none⟩ = (L[i]).enc[c]? := by
 rw [cell_of_row w g (i * 3 + c) _ _ (0, 0) h, ← flat_get L i c hi hc]
 simp
theorem RB.c0 {w : World} {g : Nat} {L : List Raw} (h : RB w g L) {i : Nat} (hi : i < L.length) : w.cell? ⟨g, i * 3, none⟩ = some (.int .i64 (L[i]).v) := by simpa [Raw.enc] using h.cell hi (c := 0) (by decide)
theorem RB.c1 {w : World} {g : Nat} {L : List Raw} (h : RB w g L) {i : Nat} (hi : i < L.length) : w.cell? ⟨g, i * 3 + 1, none⟩ = some (.bool (L[i]).s) := by simpa [Raw.enc] using h.cell hi (c := 1) (by decide)
theorem RB.c2 {w : World} {g : Nat} {L : List Raw} (h : RB w g L) {i : Nat} (hi : i < L.length) : w.cell? ⟨g, i * 3 + 2, none⟩ = some (.slice (L[i]).a (L[i]).l (L[i]).c) := by simpa [Raw.enc] using h.cell hi (c := 2) (by decide)
theorem RB.f {w : World} {g : Nat} {L : List Raw} (h : RB w g L) (o : Nat) : w.frozen? ⟨g, o, none⟩ = false := frozen_of_row w g o _ _ h
theorem RB.noU {w : World} {g : Nat} {L : List Raw} (h : RB w g L) : NoU w g := by
 intro off x hx
 rw [cell_of_row w g off _ _ (0, 0) h] at hx
 have hm : (Value.int .u32 x) ∈ flat L := by
  have : (flat L)[off]? = some (.int .u32 x) := by simpa using hx
  exact List.mem_of_getElem? this
 obtain ⟨r, _, hr⟩ := List.mem_flatMap.1 hm
 simp [Raw.enc] at hr
theorem flat_append (xs ys : List Raw) : flat (xs ++ ys) = flat xs ++ flat ys := by simp [flat]
theorem flat_take (L : List Raw) : ∀ k, (flat L).take (k * 3) = flat (L.take k) := by
 induction L with
 | nil => intro k; simp [flat]
 | cons x L ih =>
  intro k
  cases k with
  | zero => simp [flat]
  | succ k =>
   have e : flat (x :: L) = x.enc ++ flat L := by simp [flat]
   rw [e, List.take_succ_cons, show flat (x :: L.take k) = x.enc ++ flat (L.take k) by simp [flat], ← ih k]
   have hl : x.enc.length = 3 := rfl
   rw [List.take_append, List.take_of_length_le (by omega), hl, show (k + 1) * 3 - 3 = k * 3 by omega]
theorem flat_drop (L : List Raw) : ∀ k, (flat L).drop (k * 3) = flat (L.drop k) := by
 induction L with
 | nil => intro k; simp [flat]
 | cons x L ih =>
  intro k
  cases k with
  | zero => simp [flat]
  | succ k =>
   have e : flat (x :: L) = x.enc ++ flat L := by simp [flat]
   rw [e, List.drop_succ_cons, ← ih k]
   have hl : x.enc.length = 3 := rfl
   rw [List.drop_append, List.drop_eq_nil_of_le (by omega), hl, show (k + 1) * 3 - 3 = k * 3 by omega, List.nil_append]
theorem flat_one (u : Value) (L : List Raw) (h : u ∈ flat L) : u.oneCell' = true := by
 obtain ⟨r, _, hr⟩ := List.mem_flatMap.1 h
 exact v3_one _ _ _ _ _ u hr
theorem zero_get3 (z : Array Value) (k j : Nat) (h : j < k * z.size) : (Builtin.zeroCells z k)[j]? = some z[j % z.size]! := by
 simp [Builtin.zeroCells, h]
theorem zeroP (k : Nat) : Builtin.zeroCells (Value.agg #[.int .i64 0, .bool false, .slice none 0 0]).cells k = (flat (List.replicate k zr)).toArray := by
 apply Array.ext'
 apply List.ext_getElem?
 intro j
 by_cases hj : j < k * 3
 ·have h1 : (flat (List.replicate k zr))[j]? = (zr.enc)[j % 3]? := by
   have := flat_get (List.replicate k zr) (j / 3) (j % 3) (by simp; omega) (Nat.mod_lt _ (by decide))
   rw [show j / 3 * 3 + j % 3 = j from by omega] at this
   rw [this]
   simp
  rw [List.toList_toArray, h1, Array.getElem?_toList, zero_get3]
  ·have hm : j % 3 = 0 ∨ j % 3 = 1 ∨ j % 3 = 2 := by omega
   rcases hm with e | e | e <;> simp [Value.cells, e, zr, Raw.enc]
  ·simpa [Value.cells] using hj
 ·rw [List.getElem?_eq_none (by simp [Builtin.zeroCells, Value.cells]; omega), List.getElem?_eq_none (by rw [List.toList_toArray, flat_length]; simp; omega)]

/-- a slice of parts of its own: nil, or the first n parts of a block of cap parts -/
def RS (base : Nat) (w : World) (v : Value) (n cap : Nat) (L : List Raw) : Prop :=
 (v = .slice none 0 0 ∧ n = 0 ∧ cap = 0 ∧ L = []) ∨ ∃ g, v = .slice (some ⟨g, 0, none⟩) n cap ∧ base ≤ g ∧ RB w g L ∧ L.length = cap ∧ n ≤ cap ∧ cap ≤ maxLen

theorem RS.row {base : Nat} {w : World} {v : Value} {n cap : Nat} {L : List Raw} (h : RS base w v n cap L) : ∃ ad, v = .slice ad n cap := by
 rcases h with ⟨rfl, rfl, rfl, _⟩ | ⟨g, rfl, _⟩
 ·exact ⟨_, rfl⟩
 ·exact ⟨_, rfl⟩

theorem RS.below {base : Nat} {w w' : World} {v : Value} {n cap : Nat} {L : List Raw} (h : RS base w v n cap L) (hb : Below w.heap.size w w') : RS base w' v n cap L := by
 rcases h with h | ⟨g, h1, h2, h3, h4⟩
 ·exact .inl h
 ·exact .inr ⟨g, h1, h2, h3.below hb, h4⟩
/-- append of a part to a slice of one's own -/
theorem run_append_rs {w0 w : World} {v : Value} {n cap : Nat} {L : List Raw} (h : RS w0.heap.size w v n cap L) (hb : Below w0.heap.size w0 w) (x : Raw) (a : Addr) (ha : ∀ j u, (x.enc)[j]? = some u → w.cell? (a.add j) = some u) (hn : n ≤ 1073741824) (ty : TypeId) :
  ∃ v' w', (Builtin.append_ #[22, 22] ty #[v, .slice (some a) 1 1]).run Try.prog w = .ok v' w' ∧ ∃ cap' L', RS w0.heap.size w' v' (n + 1) cap' L' ∧ L'.take (n + 1) = L.take n ++ [x] ∧ (∀ y ∈ L', y ∈ L ∨ y = x ∨ y = zr) ∧ Below w0.heap.size w0 w' ∧ w.grownBy w' v.ownBlock ∧ (v'.ownBlock = v.ownBlock ∨ v'.ownBlock = some w.heap.size) := by
 obtain ⟨i0, hi, hz0, hz1, hz2⟩ := info_parts infoP
 have hxl : x.enc.length = 1 * i0.size := by rw [hz1]; rfl
 have hx1 : ∀ u ∈ x.enc, u.oneCell' = true := v3_one _ _ _ _ _
 have hfx : x.enc = flat [x] := by simp [flat]
 rcases h with ⟨rfl, rfl, rfl, rfl⟩ | ⟨g, rfl, hg, hr, hl, hnc, hcm⟩
 ·have hr := run_append_nil (P := Try.prog) w 22 ty 62 i0 _ Try.underlying22 hi hz0 a 1 1 x.enc hxl ha (by decide) (by decide) (by rw [hz2]; decide)
  have hge := grownCap_ge w 1 0 62
  have hcm := grownCap_le_maxLen w 1 0 62 (by unfold maxLen; decide)
  rw [zeroP, hfx, List.append_toArray, ← flat_append] at hr
  refine ⟨_, _, hr, _, _, .inr ⟨_, rfl, hb.size, heap_alloc_new w.drew _, by simp; omega, hge, hcm⟩, by simp, fun y hy => ?_, below_drew_alloc hb _, grown_drew_alloc w _ _, .inr rfl⟩
  rcases List.mem_append.1 hy with h | h
  ·exact .inr (.inl (List.mem_singleton.1 h))
  ·exact .inr (.inr (List.eq_of_mem_replicate h))
 ·by_cases hroom : n + 1 ≤ cap
  ·have hr' := run_append_room (P := Try.prog) w 22 ty 62 i0 Try.underlying22 hi g n cap (flat L).toArray hr a 1 1 x.enc hxl ha hx1 hroom (by rw [hz1]; simp [flat_length]; rw [show x.enc.length = 3 from rfl]; omega)
   have e1 : ((flat L).toArray.toList.take (n * i0.size) ++ x.enc ++ (flat L).toArray.toList.drop (n * i0.size + x.enc.length)) = flat (L.take n ++ [x] ++ L.drop (n + 1)) := by
    rw [hz1, show x.enc.length = 3 from rfl, show n * 3 + 3 = (n + 1) * 3 by omega]
    dsimp only
    rw [flat_take, flat_drop, flat_append, flat_append, hfx]
   rw [e1] at hr'
   refine ⟨_, _, hr', cap, L.take n ++ [x] ++ L.drop (n + 1), .inr ⟨g, rfl, hg, setRow_heap w g _ _ _ _ hr, by simp; omega, hroom, hcm⟩, ?_, fun y hy => ?_, hb.trans ⟨rfl, rfl, rfl, by simp, fun k hk => setRow_other w g k _ (by omega)⟩, ⟨rfl, rfl, rfl, by simp, fun k _ hk => setRow_other w g k _ (fun e => hk (by simp [Value.ownBlock, e]))⟩, .inl rfl⟩
   ·have e : (L.take n ++ [x]).length = n + 1 := by simp; omega
    rw [← e, List.take_left]
   ·rcases List.mem_append.1 hy with h | h
    ·rcases List.mem_append.1 h with h | h
     ·exact .inl (List.mem_of_mem_take h)
     ·exact .inr (.inl (List.mem_singleton.1 h))
    ·exact .inl (List.mem_of_mem_drop h)
  ·have holds : ∀ j u, (flat (L.take n))[j]? = some u → w.cell? ((⟨g, 0, none⟩ : Addr).add j) = some u := fun j u hu => by
    rw [Addr.add_lit, Nat.zero_add, cell_of_row w g j _ _ (0, 0) hr]
    rw [← flat_take] at hu
    rw [List.getElem?_take] at hu
    split at hu
    ·simpa using hu
    ·cases hu
   have hr' := run_append_grow (P := Try.prog) w 22 ty 62 i0 _ Try.underlying22 hi hz0 ⟨g, 0, none⟩ n cap (flat (L.take n)) (by rw [hz1, flat_length]; simp; omega) holds a 1 1 x.enc hxl ha (by omega) (by omega) (growslice_fits (by omega) (by rw [hz2]; omega))
   have hge := grownCap_ge w (n + 1) cap 62
   have hcm' := grownCap_le_maxLen w (n + 1) cap 62 (by unfold maxLen; omega)
   rw [zeroP, hfx, List.append_toArray, List.append_toArray, ← flat_append, ← flat_append] at hr'
   refine ⟨_, _, hr', _, _, .inr ⟨_, rfl, hb.size, heap_alloc_new w.drew _, by simp; omega, hge, hcm'⟩, ?_, fun y hy => ?_, below_drew_alloc hb _, grown_drew_alloc w _ _, .inr rfl⟩
   ·have e : (L.take n ++ [x]).length = n + 1 := by simp; omega
    rw [← e, List.take_left]
   ·rcases List.mem_append.1 hy with h | h
    ·rcases List.mem_append.1 h with h | h
     ·exact .inl (List.mem_of_mem_take h)
     ·exact .inr (.inl (List.mem_singleton.1 h))
    ·exact .inr (.inr (List.eq_of_mem_replicate h))

/-- numbers stay while a slice of one's own is appended to -/
theorem RS.zn {base : Nat} {w w' : World} {v : Value} {n cap : Nat} {L : List Raw} (h : RS base w v n cap L) (hg : w.grownBy w' v.ownBlock) {s : Bool} {a : Option Addr} {l c : Nat} {z : Int} (hz : Zn w s a l c z) : Zn w' s a l c z := by
 rcases h with ⟨rfl, _⟩ | ⟨g, rfl, _, hr, _⟩
 ·exact hz.below (gb_none hg)
 ·exact hz.grownU hg hr.noU
theorem RS.zm {base : Nat} {w w' : World} {v : Value} {n cap : Nat} {L : List Raw} (h : RS base w v n cap L) (hg : w.grownBy w' v.ownBlock) {s : Bool} {a : Option Addr} {l c : Nat} {z : Int} (hz : Zm w s a l c z) : Zm w' s a l c z := by
 rcases h with ⟨rfl, _⟩ | ⟨g, rfl, _, hr, _⟩
 ·exact hz.below (gb_none hg)
 ·exact hz.grownU hg hr.noU

/-- copy within a block of parts -/
theorem run_copy_rb {w : World} {g d s m dcap scap ls ld : Nat} {L : List Raw} (h : RB w g L) (hs : s + m ≤ L.length) (hd : d + m ≤ L.length) (hm : m = Nat.min ls ld) (ty : TypeId) :
  (Builtin.copy_ #[22, 22] ty #[.slice (some ⟨g, d * 3, none⟩) ld dcap, .slice (some ⟨g, s * 3, none⟩) ls scap]).run Try.prog w = .ok (goInt m) (w.setRow g (flat (L.take d ++ (L.drop s).take m ++ L.drop (d + m))).toArray) := by
 obtain ⟨i0, hi, hz0, hz1, hz2⟩ := info_parts infoP
 have hcl : (flat ((L.drop s).take m)).length = m * 3 := by rw [flat_length]; simp; omega
 have hl := run_loadCells_list (P := Try.prog) w ⟨g, s * 3, none⟩ (flat ((L.drop s).take m)) (fun j v hv => by
  rw [Addr.add_lit, cell_of_row w g _ _ _ (0, 0) h]
  rw [← flat_take, ← flat_drop, List.getElem?_take] at hv
  split at hv
  ·rw [List.getElem?_drop] at hv; simpa using hv
  ·cases hv)
 have hst := run_storeCells_at Try.prog g (d * 3) 62 (flat ((L.drop s).take m)) 0 (flat L).toArray w h (by simp [hcl, flat_length]; omega) (fun u hu => flat_one u _ hu)
 have e1 : (flat L).take (d * 3) ++ flat ((L.drop s).take m) ++ (flat L).drop (d * 3 + (flat ((L.drop s).take m)).length) = flat (L.take d ++ (L.drop s).take m ++ L.drop (d + m)) := by
  rw [hcl, show d * 3 + m * 3 = (d + m) * 3 by omega, flat_take, flat_drop, flat_append, flat_append]
 have hmin : m * i0.size = (flat ((L.drop s).take m)).length := by rw [hcl, hz1]
 simp only [Nat.add_zero] at hst
 rw [e1] at hst
 simp [Builtin.copy_, run_underlying Try.underlying22, Builtin.lenOf, Builtin.firstCells, sizeOf, typeInfo, hi, ← hm]
 rw [hmin, hl]
 simp only [List.append_assoc] at hst
 simp [hst]
theorem run_copy_zero {w : World} {da sa : Option Addr} {dcap scap ls ld : Nat} (hm : Nat.min ls ld = 0) (ty : TypeId) :
  (Builtin.copy_ #[22, 22] ty #[.slice da ld dcap, .slice sa ls scap]).run Try.prog w = .ok (goInt 0) w := by
 obtain ⟨i0, hi, hz0, hz1, hz2⟩ := info_parts infoP
 cases sa <;> cases da <;> simp [Builtin.copy_, run_underlying Try.underlying22, Builtin.lenOf, Builtin.firstCells, sizeOf, typeInfo, hi, hm, loadCells, loadCellsFrom, storeCells]
/-- what is left behind the laying in of a part at place t -/
def lay (L : List Raw) (t n : Nat) (y : Raw) : List Raw := (L.take (t + 1) ++ (L.drop t).take (n - t) ++ L.drop (t + 1 + (n - t))).set t y
theorem lay_take {L L0 : List Raw} {t n : Nat} {y z : Raw} (h : L.take (n + 1) = L0 ++ [z]) (h0 : L0.length = n) (ht : t ≤ n) : (lay L t n y).take (n + 1) = L0.take t ++ [y] ++ L0.drop t := by
 have hlen : n + 1 ≤ L.length := by
  have := congrArg List.length h
  simp at this
  omega
 have hL : ∀ i, i < n → L[i]? = L0[i]? := fun i hi => by
  have := congrArg (fun l => l[i]?) h
  simp only [List.getElem?_take, List.getElem?_append] at this
  rw [if_pos (by omega), if_pos (by omega)] at this
  exact this
 have hm : min (t + 1) L.length = t + 1 := by omega
 have hm0 : min t L0.length = t := by omega
 have hm2 : min (n - t) (L.length - t) = n - t := by omega
 apply List.ext_getElem?
 intro i
 unfold lay
 simp only [List.getElem?_take, List.getElem?_set, List.getElem?_append, List.getElem?_drop, List.length_append, List.length_take, List.length_drop, List.length_cons, List.length_nil, hm, hm0, hm2]
 by_cases h1 : i < t
 ·rw [if_pos (by omega), if_neg (by omega), if_pos (by omega), if_pos (by omega), if_pos (by omega), if_pos (by omega), if_pos (by omega), if_pos (by omega)]
  exact hL i (by omega)
 ·by_cases h2 : i = t
  ·subst h2
   rw [if_pos (by omega), if_pos rfl, if_pos (by omega), if_pos (by omega), if_neg (by omega)]
   simp
  ·by_cases h3 : i < n + 1
   ·rw [if_pos (by omega), if_neg (by omega), if_pos (by omega), if_neg (by omega), if_pos (by omega), if_neg (by omega)]
    rw [hL _ (by omega)]
   ·rw [if_neg (by omega), if_neg (by omega), List.getElem?_eq_none (by omega)]
end Go.Proofs.Ytagjfhipjbpoiaa

namespace Go.Proofs.Ytagjfhipjbpoiaa
open Go.RowKit Go.Sort Go.Shelf
open Tm

/-- parts by rising variables, one more laid in -/
def ins : List (Int × Int) → Int × Int → List (Int × Int)
 | [], p => [p]
 | q :: qs, p => if q.1 < p.1 then q :: ins qs p else if q.1 = p.1 then (q.1, q.2 + p.2) :: qs else p :: q :: qs
theorem csum_ins (qs : List (Int × Int)) (p : Int × Int) (v : Int) : csum (ins qs p) v = csum qs v + if p.1 = v then p.2 else 0 := by
 induction qs with
 | nil => simp [ins, csum]
 | cons q qs ih =>
  unfold ins
  split
  ·simp only [csum, ih]; omega
  ·split
   ·rename_i h
    simp only [csum, h]
    split <;> omega
   ·simp only [csum]; omega
theorem ins_mem {qs : List (Int × Int)} {p r : Int × Int} (h : r ∈ ins qs p) : r.1 = p.1 ∨ ∃ q ∈ qs, q.1 = r.1 := by
 induction qs with
 | nil => simp [ins] at h; exact .inl (by rw [h])
 | cons q qs ih =>
  unfold ins at h
  split at h
  ·rcases List.mem_cons.1 h with rfl | h
   ·exact .inr ⟨r, by simp, rfl⟩
   ·rcases ih h with h | ⟨x, hx, e⟩
    ·exact .inl h
    ·exact .inr ⟨x, by simp [hx], e⟩
  ·split at h
   ·rcases List.mem_cons.1 h with rfl | h
    ·exact .inr ⟨q, by simp, rfl⟩
    ·exact .inr ⟨r, by simp [h], rfl⟩
   ·rcases List.mem_cons.1 h with rfl | h
    ·exact .inl rfl
    ·exact .inr ⟨r, h, rfl⟩
def Rise (qs : List (Int × Int)) : Prop := qs.Pairwise (fun p q => p.1 < q.1)
theorem rise_ins {qs : List (Int × Int)} (h : Rise qs) (p : Int × Int) : Rise (ins qs p) := by
 induction qs with
 | nil => simp [ins, Rise]
 | cons q qs ih =>
  have h1 := List.pairwise_cons.1 h
  unfold ins
  split
  ·refine List.pairwise_cons.2 ⟨fun r hr => ?_, ih h1.2⟩
   rcases ins_mem hr with e | ⟨x, hx, e⟩
   ·omega
   ·have := h1.1 x hx; omega
  ·split
   ·exact List.pairwise_cons.2 ⟨fun r hr => h1.1 r hr, h1.2⟩
   ·refine List.pairwise_cons.2 ⟨fun r hr => ?_, h⟩
    rcases List.mem_cons.1 hr with rfl | hr
    ·omega
    ·have := h1.1 r hr; omega
/-- where a part is laid in: behind k lesser ones -/
theorem ins_at : ∀ (qs : List (Int × Int)) (p : Int × Int) (k : Nat), (∀ i (h : i < qs.length), i < k → qs[i].1 < p.1) → (∀ h : k < qs.length, ¬ qs[k].1 < p.1) → k ≤ qs.length →
  ins qs p = if h : k < qs.length then (if qs[k].1 = p.1 then qs.take k ++ [(qs[k].1, qs[k].2 + p.2)] ++ qs.drop (k + 1) else qs.take k ++ [p] ++ qs.drop k) else qs ++ [p]
 | [], p, k, _, _, h => by
  obtain rfl : k = 0 := by simpa using h
  simp [ins]
 | q :: qs, p, 0, _, h2, _ => by
  have := h2 (by simp)
  simp at this
  unfold ins
  rw [if_neg (by simpa using this)]
  simp
 | q :: qs, p, k + 1, h1, h2, h3 => by
  have h0 := h1 0 (by simp) (by omega)
  simp at h0
  have ih := ins_at qs p k (fun i hi hk => by have := h1 (i + 1) (by simp; omega) (by omega); simpa using this) (fun hk => by have := h2 (by simp; omega); simpa using this) (by simpa using h3)
  unfold ins
  rw [if_pos h0, ih]
  by_cases hk : k < qs.length
  ·simp [hk]
   split <;> rfl
  ·simp [hk]

theorem flat_set (L : List Raw) : ∀ (t : Nat) (_ : t < L.length) (y : Raw), (((flat L).set (t * 3) (.int .i64 y.v)).set (t * 3 + 1) (.bool y.s)).set (t * 3 + 2) (.slice y.a y.l y.c) = flat (L.set t y) := by
 induction L with
 | nil => intro t ht; cases ht
 | cons x L ih =>
  intro t ht y
  have e : flat (x :: L) = .int .i64 x.v :: .bool x.s :: .slice x.a x.l x.c :: flat L := by simp [flat, Raw.enc]
  cases t with
  | zero =>
   rw [e]
   simp [flat, Raw.enc]
  | succ t =>
   have e2 : flat ((x :: L).set (t + 1) y) = .int .i64 x.v :: .bool x.s :: .slice x.a x.l x.c :: flat (L.set t y) := by simp [flat, Raw.enc]
   rw [e, e2, ← ih t (by simpa using ht) y, show (t + 1) * 3 = t * 3 + 1 + 1 + 1 by omega]
   simp
theorem rb_set3 {w : World} {g : Nat} {L : List Raw} (h : RB w g L) {t : Nat} (ht : t < L.length) (y : Raw) :
  RB (((w.setCell ⟨g, t * 3, none⟩ (.int .i64 y.v)).setCell ⟨g, t * 3 + 1, none⟩ (.bool y.s)).setCell ⟨g, t * 3 + 2, none⟩ (.slice y.a y.l y.c)) g (L.set t y) := by
 unfold RB
 refine (heap_setCell_same _ g (t * 3 + 2) _ _ _ (heap_setCell_same _ g (t * 3 + 1) _ _ _ (heap_setCell_same w g (t * 3) _ _ _ h))).trans ?_
 rw [← flat_set L t ht y]
 simp
theorem rb_set2 {w : World} {g : Nat} {L : List Raw} (h : RB w g L) {t : Nat} (ht : t < L.length) (y : Raw) (hy : y.v = (L[t]).v) :
  RB ((w.setCell ⟨g, t * 3 + 1, none⟩ (.bool y.s)).setCell ⟨g, t * 3 + 2, none⟩ (.slice y.a y.l y.c)) g (L.set t y) := by
 unfold RB
 refine (heap_setCell_same _ g (t * 3 + 2) _ _ _ (heap_setCell_same w g (t * 3 + 1) _ _ _ h)).trans ?_
 rw [← flat_set L t ht y]
 have e : (flat L).set (t * 3) (.int .i64 y.v) = flat L := by
  have := flat_get L t 0 ht (by decide)
  apply List.ext_getElem?
  intro j
  rw [List.getElem?_set]
  by_cases hj : t * 3 = j
  ·subst hj
   have hlt : t * 3 < (flat L).length := by rw [flat_length]; omega
   simp [hlt]
   rw [Nat.add_zero, List.getElem?_eq_getElem hlt] at this
   simp [Raw.enc] at this
   rw [this, hy]
  ·simp [hj]
 rw [e]
 simp
theorem set_ins {L : List Raw} {n t : Nat} {y : Raw} {pv pz : Int} (htn : t < n) (hnL : n ≤ L.length) (h1 : ∀ i (h : i < L.length), i < t → (L[i]).v < pv) (he : (L[t]'(by omega)).v = pv) (hyv : y.v = pv) (hyz : y.z = (L[t]'(by omega)).z + pz) : ((L.set t y).take n).map Raw.p = ins ((L.take n).map Raw.p) (pv, pz) := by
 have hlen : ((L.take n).map Raw.p).length = n := by simp; omega
 rw [ins_at ((L.take n).map Raw.p) (pv, pz) t (fun i hi hit => by simpa [Raw.p] using h1 i (by omega) hit) (fun hk => by simp [Raw.p, he]) (by omega)]
 rw [dif_pos (by omega)]
 simp only [List.getElem_map, List.getElem_take]
 rw [if_pos (by simpa [Raw.p] using he), List.take_set, List.map_set, List.set_eq_take_append_cons_drop, if_pos (by omega)]
 simp [Raw.p, he, hyv, hyz]
theorem lay_ins {L0 : List Raw} {t : Nat} {y : Raw} {pv pz : Int} (ht : t ≤ L0.length) (h1 : ∀ i (h : i < L0.length), i < t → (L0[i]).v < pv) (h2 : ∀ h : t < L0.length, ¬ (L0[t]).v < pv ∧ (L0[t]).v ≠ pv) (hy : y.p = (pv, pz)) : (L0.take t ++ [y] ++ L0.drop t).map Raw.p = ins (L0.map Raw.p) (pv, pz) := by
 rw [ins_at (L0.map Raw.p) (pv, pz) t (fun i hi hit => by simpa [Raw.p] using h1 i (by simpa using hi) hit) (fun hk => by simpa [Raw.p] using (h2 (by simpa using hk)).1) (by simpa using ht)]
 by_cases hk : t < L0.length
 ·rw [dif_pos (by simpa using hk)]
  simp only [List.getElem_map]
  rw [if_neg (by simpa [Raw.p] using (h2 hk).2)]
  simp [hy]
 ·obtain rfl : t = L0.length := by omega
  rw [dif_neg (by simp)]
  simp [hy]
def Ins (L : List Raw) (n : Nat) (L' : List Raw) (n' : Nat) (pv pz : Int) : Prop := (L'.take n').map Raw.p = ins ((L.take n).map Raw.p) (pv, pz)
def Rok (w : World) (B : Nat) (L : List Raw) : Prop := ∀ x ∈ L, x.ok w B
theorem Rok.below {w w' : World} {B : Nat} {L : List Raw} (h : Rok w B L) (hb : Below w.heap.size w w') : Rok w' B L := fun x hx => ⟨(h x hx).1.below hb, (h x hx).2⟩
theorem Rok.grownU {w w' : World} {B b : Nat} {L : List Raw} (h : Rok w B L) (hg : w.grownBy w' (some b)) (hb : NoU w b) : Rok w' B L := fun x hx => raw_grown hg hb (h x hx)
theorem Rok.mono {w : World} {B B' : Nat} {L : List Raw} (h : Rok w B L) (hB : B ≤ B') : Rok w B' L := fun x hx => ⟨(h x hx).1, Nat.le_trans (h x hx).2.1 hB, (h x hx).2.2⟩
theorem zr_ok (w : World) (B : Nat) : zr.ok w B := ⟨zn_zero w, Nat.zero_le _, by unfold I64; decide⟩
theorem lk {wb w' : World} {q g : Nat} {v : Int} {s : Bool} {a : Option Addr} {l c : Nat} {L : List Raw} {t : Nat} (x : PB wb q v s a l c) (r : RB wb g L) (ht : t < L.length) (k : Below wb.heap.size wb w') :
  w'.cell? ⟨g, t * 3, none⟩ = some (.int .i64 (L[t]).v) ∧ w'.cell? ⟨q, 0, none⟩ = some (.int .i64 v) ∧ Below wb.heap.size wb w' := by
 have x' : PB w' q v s a l c := (k.block q x.lt).trans x
 exact ⟨(r.below k).c0 ht, x'.c0, k⟩

set_option maxRecDepth 100000 in
set_option maxHeartbeats 6400000 in
theorem laid_n {w0 w : World} {v : Value} {n cap : Nat} {L : List Raw} {pv : Int} {s : Bool} {a : Option Addr} {l c : Nat} {pz : Int} {B : Nat} (hR : RS w0.heap.size w v n cap L) (hb : Below w0.heap.size w0 w) (hok : Rok w B L) (hz : Zm w s a l c pz) (hl : l ≤ B) (hv : I64 pv) (hn : n ≤ 268435456) (hB : B ≤ 268435456) :
  Calls Try.prog 59 #[v, .agg #[.int .i64 pv, .bool s, .slice a l c]] w fun e w' => ∃ ad' n' cap' L', e = .returned (.slice ad' n' cap') ∧ RS w0.heap.size w' (.slice ad' n' cap') n' cap' L' ∧ Rok w' (B + 1) L' ∧ Ins L n L' n' pv pz ∧ n' ≤ n + 1 ∧ Below w0.heap.size w0 w' := by
 obtain ⟨ad, rfl⟩ := hR.row
 go_enter Try.func59, Try.ntmps59
 go_wp2_with fail
 have x := pb_new w pv s a l c
 have ka := below_alloc w (.cells #[.int .i64 pv, .bool s, .slice a l c] 62)
 have hg0 : ∀ g, ad = some ⟨g, 0, none⟩ → RB w g L := fun g e => by
  rcases hR with ⟨h, _⟩ | ⟨g', h, _, hr, _⟩
  ·simp at h; rw [h.1] at e; cases e
  ·simp at h; rw [h] at e; cases e; exact hr
 have hgw : ∀ g, ad = some ⟨g, 0, none⟩ → RB (w.alloc (.cells #[.int .i64 pv, .bool s, .slice a l c] 62)) g L := fun g e => (hg0 g e).below ka
 have hnz : 0 < n → ∃ g, ad = some ⟨g, 0, none⟩ ∧ n ≤ L.length ∧ w0.heap.size ≤ g ∧ g < w.heap.size ∧ L.length = cap ∧ cap ≤ maxLen := fun h0 => by
  rcases hR with ⟨_, h, _⟩ | ⟨g', h, hg', hr', hl', hnc, hcm⟩
  ·omega
  ·simp at h; exact ⟨g', h, by omega, hg', hr'.lt, hl', hcm⟩
 have hb1 := hide (grow_step ka hb)
 have hok1 := hok.below ka
 have hz1 := hz.below ka
 have hqo0 : some w.heap.size ≠ (Value.slice ad n cap).ownBlock := by
  rcases hR with ⟨h, _⟩ | ⟨g', h, _, hr, _⟩
  ·rw [h]; simp [Value.ownBlock]
  ·have := hr.lt; rw [h]; simp [Value.ownBlock]; omega
 have hnL0 : n ≤ L.length := by
  rcases hR with ⟨_, h, _⟩ | ⟨g', h, _, _, h1, h2, _⟩
  ·omega
  ·omega
 replace hqo0 := hide hqo0
 replace hg0 := hide hg0
 replace hgw := hide hgw
 replace hnz := hide hnz
 have hR1 := hide (hR.below ka)
 generalize w.alloc (.cells #[.int .i64 pv, .bool s, .slice a l c] 62) = wb at *
 generalize w.heap.size = q at *
 clear ka
 go_loopw [5] (fun i wr => ∃ t : Nat, t ≤ n ∧ i = .int .i64 t ∧ Hid (∀ i (h : i < L.length), i < t → (L[i]).v < pv) ∧ Below wb.heap.size wb wr) (fun i _ => n - (intOf i).toNat)
 case atStart => exact ⟨0, Nat.zero_le _, rfl, fun i _ h => absurd h (by omega), Below.refl _ _⟩
 case round =>
  obtain ⟨t, ht, rfl, hless, kr⟩ := hrel
  by_cases htn : t < n
  ·obtain ⟨g, rfl, hnL, hgb, hgq, hLc, hcm⟩ := hnz.out (by omega)
   have r := hgw.out g rfl
   have htL : t < L.length := by omega
   have hkr := hide kr
   go_wp2_with fail
   go_region_held3 (fun w' => w'.cell? ⟨g, t * 3, none⟩ = some (.int .i64 (L[t]).v) ∧ w'.cell? ⟨q, 0, none⟩ = some (.int .i64 pv) ∧ Below wb.heap.size wb w')
    ((refine lk x r htL ?_; (repeat' (first | with_reducible exact Below.refl _ _ | with_reducible assumption | with_reducible refine grow_step (by with_reducible assumption) ?_ | with_reducible refine grow_drew ?_ | with_reducible refine grow_alloc ?_ _ | with_reducible refine grow_drewN ?_ _))))
    (fail)
   rename_i hH
   have kH := hH.2.2
   clear hH kr
   by_cases hlt : (L[t]).v < pv
   ·have hless' : Hid (∀ i (h : i < L.length), i < t + 1 → (L[i]).v < pv) := fun i h hi => by
     by_cases e : i = t
     ·subst e; exact hlt
     ·exact hless.out i h (by omega)
    go_wp2_with fail
    exact ⟨⟨t + 1, by omega, by go_num, hless', kH⟩, by simp [intOf]; omega⟩
   ·go_wp2_with fail
    go_region_held3 (fun w' => w'.cell? ⟨g, t * 3, none⟩ = some (.int .i64 (L[t]).v) ∧ w'.cell? ⟨q, 0, none⟩ = some (.int .i64 pv) ∧ Below wb.heap.size wb w')
     ((refine lk x r htL ?_; (repeat' (first | with_reducible exact Below.refl _ _ | with_reducible assumption | with_reducible refine grow_step (by with_reducible assumption) ?_ | with_reducible refine grow_drew ?_ | with_reducible refine grow_alloc ?_ _ | with_reducible refine grow_drewN ?_ _))))
     (fail)
    rename_i hH
    have kH2 := hH.2.2
    clear hH kH
    by_cases heq : (L[t]).v = pv
    ·go_wp2_with fail
     generalize wr.drew.drew = wr2 at *
     have x2 : PB wr2 q pv s a l c := (kH2.block q x.lt).trans x
     have r2 := r.below kH2
     have hok2 := hok1.below kH2
     have hz2 := hz1.below kH2
     have hqg : q ≠ g := by omega
     have hzt := (hok2 L[t] (List.getElem_mem htL)).1
     have hlt' := (hok2 L[t] (List.getElem_mem htL)).2.1
     have kd := grow_drew (Below.refl wr2.heap.size wr2)
     have hd : wr2.grownBy wr2.drew (some g) := ⟨rfl, rfl, rfl, Nat.le_refl _, fun _ _ _ => rfl⟩
     have e1 := r2.c1 htL
     have e2 := r2.c2 htL
     refine wp_region_held_drew (S := (fun w' => w'.cell? ⟨q, 0, none⟩ = some (.int .i64 pv) ∧ w'.cell? ⟨q, 1, none⟩ = some (.bool s) ∧ w'.cell? ⟨q, 2, none⟩ = some (.slice a l c) ∧ wr2.grownBy w' (some g))) (by kernel_rfl) (pk x2 hqg hd) (fun hHeld => ?_)
     show wpAnyH _ _ _ _ _ 13 _ _ _
     refine wpAnyH_take (i := 0) (oi := ⟨some 36, _, _, _, _, _⟩) (v := ?_) rfl (by kernel_rfl) (by kernel_rfl) (by kernel_rfl) (fun _ _ _ h => h) (Or.inl ⟨by rfl, ?_⟩) (by assumption) ?_
     rotate_left
     ·intro wq hSw; (try dsimp only at hSw); go_simp; (try with_reducible rfl)
     (try simp only [Act.put, List.setIfInBounds_toArray, List.set_cons_zero, List.set_cons_succ])
     refine wpAnyH_take (i := 1) (oi := ⟨some 37, _, _, _, _, _⟩) (v := ?_) rfl (by kernel_rfl) (by kernel_rfl) (by kernel_rfl) (fun _ _ _ h => h) (Or.inl ⟨by rfl, ?_⟩) (by assumption) ?_
     rotate_left
     ·intro wq hSw; (try dsimp only at hSw); go_simp; (try with_reducible rfl)
     (try simp only [Act.put, List.setIfInBounds_toArray, List.set_cons_zero, List.set_cons_succ])
     refine wpAnyH_take (i := 2) (oi := ⟨some 38, _, _, _, _, _⟩) (v := ?_) rfl (by kernel_rfl) (by kernel_rfl) (by kernel_rfl) (fun _ _ _ h => h) (Or.inl ⟨by rfl, ?_⟩) (by assumption) ?_
     rotate_left
     ·intro wq hSw; (try dsimp only at hSw); go_simp; (try with_reducible rfl)
     (try simp only [Act.put, List.setIfInBounds_toArray, List.set_cons_zero, List.set_cons_succ])
     refine wpAnyH_take (i := 3) (oi := ⟨some 39, _, _, _, _, _⟩) (v := ?_) rfl (by kernel_rfl) (by kernel_rfl) (by kernel_rfl) (fun _ _ _ h => h) (Or.inl ⟨by rfl, ?_⟩) (by assumption) ?_
     rotate_left
     ·intro wq hSw; (try dsimp only at hSw); go_simp; (try with_reducible rfl)
     (try simp only [Act.put, List.setIfInBounds_toArray, List.set_cons_zero, List.set_cons_succ])
     refine wpAnyH_take (i := 7) (oi := ⟨some 43, _, _, _, _, _⟩) (v := ?_) rfl (by kernel_rfl) (by kernel_rfl) (by kernel_rfl) (fun _ _ _ h => h) (Or.inl ⟨by rfl, ?_⟩) (by assumption) ?_
     rotate_left
     ·intro wq hSw; (try dsimp only at hSw); go_simp; (try with_reducible rfl)
     (try simp only [Act.put, List.setIfInBounds_toArray, List.set_cons_zero, List.set_cons_succ])
     refine wpAnyH_take (i := 8) (oi := ⟨some 44, _, _, _, _, _⟩) (v := ?_) rfl (by kernel_rfl) (by kernel_rfl) (by kernel_rfl) (fun _ _ _ h => h) (Or.inl ⟨by rfl, ?_⟩) (by assumption) ?_
     rotate_left
     ·intro wq hSw; (try dsimp only at hSw); go_simp; (try with_reducible rfl)
     (try simp only [Act.put, List.setIfInBounds_toArray, List.set_cons_zero, List.set_cons_succ])
     refine wpAnyH_ready (rs := [4]) (by kernel_rfl) (by simp) ?_
     refine AllReadyH.cons (o := ⟨some 40, _, _, _, _, _⟩) rfl (fun K hK => ?_) ?_
     ·go_simp
      refine hK.out _ _ ?_ ?_
      ·(try dsimp only); (refine pk x2 hqg ?_; assumption)
      clear hK K hHeld; intro hHeld
      (try simp only [Act.put, List.setIfInBounds_toArray, List.set_cons_zero, List.set_cons_succ])
      refine wpAnyH_take (i := 5) (oi := ⟨some 41, _, _, _, _, _⟩) (v := ?_) rfl (by kernel_rfl) (by kernel_rfl) (by kernel_rfl) (fun _ _ _ h => h) (Or.inl ⟨by rfl, ?_⟩) (by assumption) ?_
      rotate_left
      ·intro wq hSw; (try dsimp only at hSw); go_simp; (try with_reducible rfl)
      (try simp only [Act.put, List.setIfInBounds_toArray, List.set_cons_zero, List.set_cons_succ])
      refine wpAnyH_ready (rs := [6]) (by kernel_rfl) (by simp) ?_
      refine AllReadyH.cons (o := ⟨some 42, _, _, _, _, _⟩) rfl (fun K hK => ?_) ?_
      ·go_simp
       refine hK.out _ _ ?_ ?_
       ·(try dsimp only); (refine pk x2 hqg ?_; assumption)
       clear hK K hHeld; intro hHeld
       (try simp only [Act.put, List.setIfInBounds_toArray, List.set_cons_zero, List.set_cons_succ])
       refine wpAnyH_ready (rs := [9]) (by kernel_rfl) (by simp) ?_
       refine AllReadyH.cons (o := ⟨some 45, _, _, _, _, _⟩) rfl (fun K hK => ?_) ?_
       ·go_simp
        go_at_call 61; refine (radd2_n (Zm.below hzt.zm kd) (Zm.below hz2 kd) (by omega) (by omega)).mono ?_; rintro e wA ⟨sA, aA, lA, cA, rfl, hzA, kA, hlA⟩; have hgA := gb_below hd kA; have rA := (r2.below kd).below kA; have uA1 := rA.c1 htL; have uA2 := rA.c2 htL; have uA3 := rA.f (t * 3 + 1); have uA4 := rA.f (t * 3 + 2); have hg2 : wr2.grownBy ((wA.setCell ⟨g, t * 3 + 1, none⟩ (.bool sA)).setCell ⟨g, t * 3 + 2, none⟩ (.slice aA lA cA)) (some g) := gb_trans (gb_trans hgA (gb_set _ _ _ _)) (gb_set _ _ _ _)
        (try go_wp2_with fail)
        refine hK.out _ _ ?_ ?_
        ·(try dsimp only); (refine pk x2 hqg ?_; assumption)
        clear hK K hHeld; intro hHeld
        (try simp only [Act.put, List.setIfInBounds_toArray, List.set_cons_zero, List.set_cons_succ])
        refine wpAnyH_ready (rs := [10]) (by kernel_rfl) (by simp) ?_
        refine AllReadyH.cons (o := ⟨some 46, _, _, _, _, _⟩) rfl (fun K hK => ?_) ?_
        ·go_simp
         refine hK.out _ _ ?_ ?_
         ·(try dsimp only); (refine pk x2 hqg ?_; assumption)
         clear hK K hHeld; intro hHeld
         (try simp only [Act.put, List.setIfInBounds_toArray, List.set_cons_zero, List.set_cons_succ])
         refine wpAnyH_take (i := 11) (oi := ⟨some 47, _, _, _, _, _⟩) (v := ?_) rfl (by kernel_rfl) (by kernel_rfl) (by kernel_rfl) (fun _ _ _ h => h) (Or.inl ⟨by rfl, ?_⟩) (by assumption) ?_
         rotate_left
         ·intro wq hSw; (try dsimp only at hSw); go_simp; (try with_reducible rfl)
         (try simp only [Act.put, List.setIfInBounds_toArray, List.set_cons_zero, List.set_cons_succ])
         refine wpAnyH_ready (rs := [12]) (by kernel_rfl) (by simp) ?_
         refine AllReadyH.cons (o := ⟨none, _, _, _, _, _⟩) rfl (fun K hK => ?_) ?_
         ·go_simp
          refine hK.out _ _ ?_ ?_
          ·(try dsimp only); (refine pk x2 hqg ?_; assumption)
          clear hK K hHeld; intro hHeld
          (try simp only [Act.put, List.setIfInBounds_toArray, List.set_cons_zero, List.set_cons_succ])
          refine wpAnyH_done (by kernel_rfl) ?_ _
          (have r3 := rb_set2 rA htL ⟨(L[t]).v, sA, aA, lA, cA, (L[t]).z + pz⟩ rfl; have hA3 : Rok _ (B + 1) (L.set t ⟨(L[t]).v, sA, aA, lA, cA, (L[t]).z + pz⟩) := (fun y hy => (List.mem_or_eq_of_mem_set hy).elim (fun h => ((hok2.mono (Nat.le_succ B)).grownU hg2 r2.noU) y h) (fun h => h.symm ▸ ⟨hzA.grownU (gb_trans (gb_set wA g (t * 3 + 1) (.bool sA)) (gb_set _ g (t * 3 + 2) (.slice aA lA cA))) rA.noU, (by show lA ≤ B + 1; omega), (hok2 L[t] (List.getElem_mem htL)).2.2⟩)); have hb3 := hide (below_grown (grow_step kH2 hb1.out) hg2 hgb); have hins := hide (set_ins (y := ⟨(L[t]).v, sA, aA, lA, cA, (L[t]).z + pz⟩) (pz := pz) htn hnL hless.out heq heq rfl); clear hg2 hgA hd kd kA uA1 uA2 uA3 uA4 hzA rA e1 e2 hHeld; go_wp2; go_ret; exact ⟨some ⟨g, 0, none⟩, n, cap, rfl, _, .inr ⟨g, rfl, hgb, r3, (by simpa using hLc), (by omega), hcm⟩, hA3, hins, (by omega), hb3.out⟩)
         exact AllReadyH.nil
        exact AllReadyH.nil
       exact AllReadyH.nil
      exact AllReadyH.nil
     exact AllReadyH.nil
    ·have kT := kH2
     generalize wr.drew.drew = wT at *
     have hR2 := hR1.out.below kT
     have hb2 := hide (grow_step kT hb1.out)
     have hok2 := hok1.below kT
     have hz2 := hz1.below kT
     have x2 : PB wT q pv s a l c := (kT.block q x.lt).trans x
     have kz := below_alloc wT (.cells #[.int .i64 0, .bool false, .slice none 0 0] 62)
     have happ := run_append_rs (hR2.below kz) (grow_step kz hb2.out) zr ⟨wT.heap.size, 0, none⟩ (v3_new wT 0 false none 0 0) (by omega)
     replace happ := hide happ
     have x2l := x2.lt
     replace kz := hide kz
     go_wp2_with (at_builtin; refine wpList_append_run rfl _ _ 22 rfl _ _ rfl rfl _ (happ.out _) ?_; rintro v3 w3 ⟨cap3, L3, hR3, htk, hmem, hb3, hg3, hown3⟩)
     rcases hR3 with ⟨_, h, _⟩ | ⟨g3, rfl, hg3b, r3, hl3, hn3, hc3⟩
     ·omega
     ·have hq3 : q ≠ g3 := by
       rcases hown3 with h | h
       ·simp [Value.ownBlock] at h; omega
       ·simp [Value.ownBlock] at h; omega
      have hqo : some q ≠ (Value.slice (some ⟨g, 0, none⟩) n cap).ownBlock := by simp [Value.ownBlock]; omega
      have x3 : PB w3 q pv s a l c := (hg3.block q (Nat.lt_of_lt_of_le x2l kz.out.size) hqo).trans ((kz.out.block q x2l).trans x2)
      have hz3 := (hR2.below kz.out).zm hg3 (hz2.below kz.out)
      have hok3 : Rok w3 B L3 := fun y hy => by
       rcases hmem y hy with h | rfl | rfl
       ·exact ⟨(hR2.below kz.out).zn hg3 ((hok2 y h).1.below kz.out), (hok2 y h).2⟩
       ·exact zr_ok _ _
       ·exact zr_ok _ _
      have kd := grow_drew (Below.refl w3.heap.size w3)
      have hcopy := run_copy_rb (w := w3.drew) (g := g3) (d := t + 1) (s := t) (m := n - t) (dcap := cap3 - (t + 1)) (scap := cap3 - t) (ls := n + 1 - t) (ld := n - t) (r3.below kd) (by omega) (by omega) (by show n - t = min (n + 1 - t) (n - t); omega) 3
      have r4 : RB (w3.drew.setRow g3 (flat (L3.take (t + 1) ++ (L3.drop t).take (n - t) ++ L3.drop (t + 1 + (n - t)))).toArray) g3 (L3.take (t + 1) ++ (L3.drop t).take (n - t) ++ L3.drop (t + 1 + (n - t))) := setRow_heap w3.drew g3 _ _ _ _ (r3.below kd)
      have hg4 : w3.grownBy (w3.drew.setRow g3 (flat (L3.take (t + 1) ++ (L3.drop t).take (n - t) ++ L3.drop (t + 1 + (n - t)))).toArray) (some g3) := ⟨rfl, rfl, rfl, by simp, fun k _ hk => setRow_other w3.drew g3 k _ (fun e => hk (by rw [e]))⟩
      have hm4 : ∀ y ∈ L3.take (t + 1) ++ (L3.drop t).take (n - t) ++ L3.drop (t + 1 + (n - t)), y ∈ L3 := fun y hy => by
       rcases List.mem_append.1 hy with h | h
       ·rcases List.mem_append.1 h with h | h
        ·exact List.mem_of_mem_take h
        ·exact List.mem_of_mem_drop (List.mem_of_mem_take h)
       ·exact List.mem_of_mem_drop h
      have hok4 : Rok _ B (L3.take (t + 1) ++ (L3.drop t).take (n - t) ++ L3.drop (t + 1 + (n - t))) := fun y hy => (hok3.grownU hg4 r3.noU) y (hm4 y hy)
      have hz4 := hz3.grownU hg4 r3.noU
      have x4 : PB _ q pv s a l c := (hg4.block q x3.lt (by simpa using hq3)).trans x3
      have hb4 := hide (below_grown hb3 hg4 hg3b)
      have hlen4 : (L3.take (t + 1) ++ (L3.drop t).take (n - t) ++ L3.drop (t + 1 + (n - t))).length = cap3 := by simp; omega
      have hlay := hide (fun y => lay_take (t := t) (y := y) htk (show (L.take n).length = n by simp; omega) (by omega))
      clear hok3 hz3 x3 hm4 hg4 hg3 hb3 hown3 hqo
      have b1 : (0 : Int) ≤ (t : Int) + 1 ∧ (t : Int) + 1 ≤ (n : Int) + 1 ∧ (n : Int) + 1 ≤ cap3 ∧ (t : Int) ≤ (n : Int) + 1 := by omega
      obtain ⟨b1, b2, b3, b4⟩ := b1
      have b5 : IntKind.i64.wrap ((t : Int) + 1) = (t : Int) + 1 := by simp [IntKind.wrap, IntKind.bits, IntKind.signed]; omega
      go_region_held3 (fun _ => True) (trivial) (fail)
      clear hcopy kd r3
      unfold lay at hlay
      rw [← List.append_assoc]
      generalize hL4 : L3.take (t + 1) ++ (L3.drop t).take (n - t) ++ L3.drop (t + 1 + (n - t)) = L4 at *
      generalize w3.drew.setRow g3 (flat L4).toArray = w4 at *
      go_wp2_with fail
      have hfin : Hid (∀ h : t < (L.take n).length, pv ≤ ((L.take n)[t]).v ∧ ((L.take n)[t]).v ≠ pv) := fun h => by
       rw [List.getElem_take]
       exact ⟨by omega, heq⟩
      have htL4 : t < L4.length := by omega
      have kd := grow_drew (Below.refl w4.heap.size w4)
      have hd : w4.grownBy w4.drew (some g3) := ⟨rfl, rfl, rfl, Nat.le_refl _, fun _ _ _ => rfl⟩
      have b6 : (t : Int) < (n : Int) + 1 := by omega
      go_region_held3 (fun w' => w'.cell? ⟨q, 0, none⟩ = some (.int .i64 pv) ∧ w'.cell? ⟨q, 1, none⟩ = some (.bool s) ∧ w'.cell? ⟨q, 2, none⟩ = some (.slice a l c) ∧ w4.grownBy w' (some g3))
       ((refine pk x4 hq3 ?_; assumption))
       ((go_at_call 58; refine (rnorm_n (Zm.below hz4 kd) (by omega)).mono ?_; rintro e wA ⟨sA, aA, lA, cA, rfl, hzA, kA, hlA⟩; have hgA := gb_below hd kA; have rA := (r4.below kd).below kA; have uA0 := rA.c0 htL4; have uA1 := rA.c1 htL4; have uA2 := rA.c2 htL4; have uA3 := rA.f (t * 3); have uA4 := rA.f (t * 3 + 1); have uA5 := rA.f (t * 3 + 2); have hg2 : w4.grownBy (((wA.setCell ⟨g3, t * 3, none⟩ (.int .i64 pv)).setCell ⟨g3, t * 3 + 1, none⟩ (.bool sA)).setCell ⟨g3, t * 3 + 2, none⟩ (.slice aA lA cA)) (some g3) := gb_trans (gb_trans (gb_trans hgA (gb_set _ _ _ _)) (gb_set _ _ _ _)) (gb_set _ _ _ _)))
      have r5 := rb_set3 rA htL4 ⟨pv, sA, aA, lA, cA, pz⟩
      have hA5 : Rok _ (B + 1) (L4.set t ⟨pv, sA, aA, lA, cA, pz⟩) := (fun y hy => (List.mem_or_eq_of_mem_set hy).elim (fun h => ((hok4.mono (Nat.le_succ B)).grownU hg2 r4.noU) y h) (fun h => h.symm ▸ ⟨hzA.grownU (gb_trans (gb_trans (gb_set wA g3 (t * 3) (.int .i64 pv)) (gb_set _ g3 (t * 3 + 1) (.bool sA))) (gb_set _ g3 (t * 3 + 2) (.slice aA lA cA))) rA.noU, (by show lA ≤ B + 1; omega), hv⟩))
      have hb5 := hide (below_grown hb4.out hg2 hg3b)
      have hins : Ins L n (L4.set t ⟨pv, sA, aA, lA, cA, pz⟩) (n + 1) pv pz := by
       unfold Ins
       rw [hlay.out ⟨pv, sA, aA, lA, cA, pz⟩]
       exact lay_ins (by simp; omega) (fun i h hi => by rw [List.getElem_take]; exact hless.out i _ hi) (fun h => ⟨Int.not_lt.2 (hfin.out h).1, (hfin.out h).2⟩) rfl
      replace hins := hide hins
      clear hg2 hgA hd kd kA uA0 uA1 uA2 uA3 uA4 uA5 hzA rA
      go_wp2
      go_ret
      exact ⟨some ⟨g3, 0, none⟩, n + 1, cap3, rfl, _, .inr ⟨g3, rfl, hg3b, r5, (by simpa using hlen4), (by omega), hc3⟩, hA5, hins.out, (by omega), hb5.out⟩
  ·obtain rfl : n = t := by omega
   clear ht htn
   go_wp2_with fail
   go_quiet (fail)
   have kT1 := grow_drewN kr nq
   generalize wr.drewN nq = wr1 at *
   clear kr
   go_wp2_with fail
   go_quiet (fail)
   have kT := grow_drewN kT1 nq
   generalize wr1.drewN nq = wT at *
   clear kT1
   have hR2 := hR1.out.below kT
   have hb2 := hide (grow_step kT hb1.out)
   have hok2 := hok1.below kT
   have hz2 := hz1.below kT
   have x2 : PB wT q pv s a l c := (kT.block q x.lt).trans x
   have kz := below_alloc wT (.cells #[.int .i64 0, .bool false, .slice none 0 0] 62)
   have happ := run_append_rs (hR2.below kz) (grow_step kz hb2.out) zr ⟨wT.heap.size, 0, none⟩ (v3_new wT 0 false none 0 0) (by omega)
   replace happ := hide happ
   have x2l := x2.lt
   replace kz := hide kz
   go_wp2_with (at_builtin; refine wpList_append_run rfl _ _ 22 rfl _ _ rfl rfl _ (happ.out _) ?_; rintro v3 w3 ⟨cap3, L3, hR3, htk, hmem, hb3, hg3, hown3⟩)
   rcases hR3 with ⟨_, h, _⟩ | ⟨g3, rfl, hg3b, r3, hl3, hn3, hc3⟩
   ·omega
   ·have hq3 : q ≠ g3 := fun e => by
     rcases hown3 with h | h
     ·exact hqo0.out (by rw [← h, e]; rfl)
     ·simp [Value.ownBlock] at h; omega
    have x3 : PB w3 q pv s a l c := (hg3.block q (Nat.lt_of_lt_of_le x2l kz.out.size) hqo0.out).trans ((kz.out.block q x2l).trans x2)
    have hz3 := (hR2.below kz.out).zm hg3 (hz2.below kz.out)
    have hok3 : Rok w3 B L3 := fun y hy => by
     rcases hmem y hy with h | rfl | rfl
     ·exact ⟨(hR2.below kz.out).zn hg3 ((hok2 y h).1.below kz.out), (hok2 y h).2⟩
     ·exact zr_ok _ _
     ·exact zr_ok _ _
    have kd := grow_drew (Below.refl w3.heap.size w3)
    have hcopy := fun da sa dcap scap => run_copy_zero (w := w3.drew) (da := da) (sa := sa) (dcap := dcap) (scap := scap) (ls := 1) (ld := 0) (by rfl) 3
    have hlay : Hid (∀ y : Raw, (L3.set n y).take (n + 1) = (L.take n).take n ++ [y] ++ (L.take n).drop n) := fun y => by
     have := lay_take (t := n) (y := y) htk (show (L.take n).length = n by simp; omega) (Nat.le_refl n)
     unfold lay at this
     simpa using this
    have r4 : RB w3.drew g3 L3 := r3.below kd
    have hok4 : Rok w3.drew B L3 := hok3.below kd
    have hz4 : Zm w3.drew s a l c pz := hz3.below kd
    have x4 : PB w3.drew q pv s a l c := (kd.block q x3.lt).trans x3
    have hb4 : Hid (Below w0.heap.size w0 w3.drew) := grow_step kd hb3
    have hfin : Hid (∀ h : n < (L.take n).length, pv ≤ ((L.take n)[n]).v ∧ ((L.take n)[n]).v ≠ pv) := fun h => absurd h (by simp; omega)
    have b1 : (0 : Int) ≤ (n : Int) + 1 ∧ (n : Int) + 1 ≤ (n : Int) + 1 ∧ (n : Int) + 1 ≤ cap3 ∧ (n : Int) ≤ (n : Int) + 1 := by omega
    obtain ⟨b1, b2, b3, b4⟩ := b1
    have b5 : IntKind.i64.wrap ((n : Int) + 1) = (n : Int) + 1 := by simp [IntKind.wrap, IntKind.bits, IntKind.signed]; omega
    clear hok3 hz3 x3 hg3 hb3 hown3
    go_region_held3 (fun _ => True) (trivial) (fail)
    clear hcopy kd r3
    have hlen4 : L3.length = cap3 := hl3
    generalize w3.drew = w4 at *
    generalize L3 = L4 at *
    go_wp2_with fail
    all_goals
     have htL4 : n < L4.length := by omega
     have kd := grow_drew (Below.refl w4.heap.size w4)
     have hd : w4.grownBy w4.drew (some g3) := ⟨rfl, rfl, rfl, Nat.le_refl _, fun _ _ _ => rfl⟩
     have b6 : (n : Int) < (n : Int) + 1 := by omega
     go_region_held3 (fun w' => w'.cell? ⟨q, 0, none⟩ = some (.int .i64 pv) ∧ w'.cell? ⟨q, 1, none⟩ = some (.bool s) ∧ w'.cell? ⟨q, 2, none⟩ = some (.slice a l c) ∧ w4.grownBy w' (some g3))
      ((refine pk x4 hq3 ?_; assumption))
      ((go_at_call 58; refine (rnorm_n (Zm.below hz4 kd) (by omega)).mono ?_; rintro e wA ⟨sA, aA, lA, cA, rfl, hzA, kA, hlA⟩; have hgA := gb_below hd kA; have rA := (r4.below kd).below kA; have uA0 := rA.c0 htL4; have uA1 := rA.c1 htL4; have uA2 := rA.c2 htL4; have uA3 := rA.f (n * 3); have uA4 := rA.f (n * 3 + 1); have uA5 := rA.f (n * 3 + 2); have hg2 : w4.grownBy (((wA.setCell ⟨g3, n * 3, none⟩ (.int .i64 pv)).setCell ⟨g3, n * 3 + 1, none⟩ (.bool sA)).setCell ⟨g3, n * 3 + 2, none⟩ (.slice aA lA cA)) (some g3) := gb_trans (gb_trans (gb_trans hgA (gb_set _ _ _ _)) (gb_set _ _ _ _)) (gb_set _ _ _ _)))
     have r5 := rb_set3 rA htL4 ⟨pv, sA, aA, lA, cA, pz⟩
     have hA5 : Rok _ (B + 1) (L4.set n ⟨pv, sA, aA, lA, cA, pz⟩) := (fun y hy => (List.mem_or_eq_of_mem_set hy).elim (fun h => ((hok4.mono (Nat.le_succ B)).grownU hg2 r4.noU) y h) (fun h => h.symm ▸ ⟨hzA.grownU (gb_trans (gb_trans (gb_set wA g3 (n * 3) (.int .i64 pv)) (gb_set _ g3 (n * 3 + 1) (.bool sA))) (gb_set _ g3 (n * 3 + 2) (.slice aA lA cA))) rA.noU, (by show lA ≤ B + 1; omega), hv⟩))
     have hb5 := hide (below_grown hb4.out hg2 hg3b)
     have hins : Ins L n (L4.set n ⟨pv, sA, aA, lA, cA, pz⟩) (n + 1) pv pz := by
      unfold Ins
      rw [hlay.out ⟨pv, sA, aA, lA, cA, pz⟩]
      exact lay_ins (by simp; omega) (fun i h hi => by rw [List.getElem_take]; exact hless.out i _ hi) (fun h => ⟨Int.not_lt.2 (hfin.out h).1, (hfin.out h).2⟩) rfl
     replace hins := hide hins
     clear hg2 hgA hd kd kA uA0 uA1 uA2 uA3 uA4 uA5 hzA rA
     go_wp2
     go_ret
     exact ⟨some ⟨g3, 0, none⟩, n + 1, _, rfl, _, .inr ⟨g3, rfl, hg3b, r5, (by rw [List.length_set]; omega), (by omega), (by omega)⟩, hA5, hins.out, (by omega), hb5.out⟩
end Go.Proofs.Ytagjfhipjbpoiaa

namespace Go.Proofs.Ytagjfhipjbpoiaa.Fresh
open Go.RowKit Go.Sort Go.Shelf
open Tm

theorem sortW_block {α : Type} [Inhabited α] (enc : α → List Value) (w : World) (g m : Nat) (dk : Array α) (os : Array Obj) {cur : Array Value} {ty : TypeId} {fz : Nat × Nat} (h : w.heap[g]? = some (.cells cur ty fz)) :
  (sortWorldK enc 3 w g 0 m dk os).heap[g]? = some (.cells (putCells id 0 (flatK enc 3 dk) cur) ty fz) := by
 have hg : g < w.heap.size := (Array.getElem?_eq_some_iff.1 h).1
 simp only [sortWorldK, grow, putRowK, putRow, mapBlock, Sort.ahead]
 rw [Array.getElem?_append_left (by simpa using hg), Array.getElem?_modify, if_pos rfl, h]
 rfl
theorem putCells_past (d : Array Value) (cur : Array Value) (j : Nat) (h : d.size ≤ j) : (putCells id 0 d cur)[j]? = cur[j]? := by
 simp only [putCells, Array.getElem?_mapIdx]
 cases cur[j]? with
 | none => rfl
 | some x => simp only [Option.map_some]; rw [if_neg (by omega)]

/-- the numbers of these parts lie at block F or later -/
def New (F : Nat) (w : World) (L : List Raw) : Prop := ∀ x ∈ L, x.l ≤ x.c ∧ Fr F w x.a x.c
theorem New.below {F : Nat} {w w' : World} {L : List Raw} (h : New F w L) (hb : Below w.heap.size w w') : New F w' L := fun x hx => ⟨(h x hx).1, (h x hx).2.below hb⟩
theorem New.grownN {F m : Nat} {w w' : World} {L : List Raw} (h : New F w L) (hg : w.grownBy w' (some m)) (hm : NR w m) : New F w' L := fun x hx => ⟨(h x hx).1, (h x hx).2.grownN hg hm⟩
theorem nr_cells {w : World} {m : Nat} {cs : Array Value} {ty : TypeId} {fz : Nat × Nat} (h : w.heap[m]? = some (.cells cs ty fz)) (ht : ty ≠ 70) : NR w m := fun xs hr => by
 have e := Option.some.inj (h.symm.trans hr)
 injection e with _ e2 _
 exact ht e2
theorem nr_tb {w : World} {b : Nat} {ad : Option Addr} {n cp : Nat} {s : Bool} {a : Option Addr} {l c : Nat} (h : TB w b ad n cp s a l c) : NR w b := nr_cells h (by decide)
theorem nr_rb {w : World} {g : Nat} {L : List Raw} (h : RB w g L) : NR w g := nr_cells h (by decide)
theorem rb_tb {w : World} {g b : Nat} {L : List Raw} {ad : Option Addr} {n cp : Nat} {s : Bool} {a : Option Addr} {l c : Nat} (h : RB w g L) (y : TB w b ad n cp s a l c) : g ≠ b := by
 rintro rfl
 have e := Option.some.inj ((show w.heap[g]? = _ from h).symm.trans y)
 injection e with _ e2 _
 exact absurd e2 (by decide)
/-- an answer that may be written over: its parts, spare room too, and its numbers lie at block F or later -/
def NW (F : Nat) (w : World) (ad : Option Addr) (n cp : Nat) (a : Option Addr) (l c : Nat) : Prop := ∃ L, RS F w (.slice ad n cp) n cp L ∧ New F w L ∧ l ≤ c ∧ Fr F w a c
theorem NW.below {F : Nat} {w w' : World} {ad : Option Addr} {n cp : Nat} {a : Option Addr} {l c : Nat} (h : NW F w ad n cp a l c) (hb : Below w.heap.size w w') : NW F w' ad n cp a l c := by
 obtain ⟨L, h1, h2, h3, h4⟩ := h
 exact ⟨L, h1.below hb, h2.below hb, h3, h4.below hb⟩
theorem rs_tb {base : Nat} {w w' : World} {v : Value} {n cap : Nat} {L : List Raw} {r : Nat} {ad : Option Addr} {n0 cp : Nat} {s : Bool} {a : Option Addr} {l c : Nat} (h : RS base w v n cap L) (y : TB w r ad n0 cp s a l c) (hg : w.grownBy w' (some r)) : RS base w' v n cap L := by
 rcases h with h | ⟨g, e, hb, hr, h⟩
 ·exact .inl h
 ·exact .inr ⟨g, e, hb, hr.grown hg (rb_tb hr y), h⟩
theorem NW.tb {F : Nat} {w w' : World} {ad : Option Addr} {n cp : Nat} {a : Option Addr} {l c : Nat} {r : Nat} {ad0 : Option Addr} {n0 cp0 : Nat} {s0 : Bool} {a0 : Option Addr} {l0 c0 : Nat} (h : NW F w ad n cp a l c) (y : TB w r ad0 n0 cp0 s0 a0 l0 c0) (hg : w.grownBy w' (some r)) : NW F w' ad n cp a l c := by
 obtain ⟨L, h1, h2, h3, h4⟩ := h
 exact ⟨L, rs_tb h1 y hg, h2.grownN hg (nr_tb y), h3, h4.grownN hg (nr_tb y)⟩
theorem rs_own {base : Nat} {w : World} {v : Value} {n cap k : Nat} {L : List Raw} (h : RS base w v n cap L) (e : v.ownBlock = some k) : base ≤ k ∧ k < w.heap.size := by
 rcases h with ⟨rfl, _⟩ | ⟨g, rfl, hb, hr, _⟩
 ·cases e
 ·cases e
  exact ⟨hb, hr.lt⟩
theorem rs_kept {base : Nat} {w w' : World} {v : Value} {n cap r : Nat} {L : List Raw} (h : RS base w v n cap L) (hg : w.grownBy w' (some r)) (hr : r < base) : RS base w' v n cap L := by
 rcases h with h | ⟨g, e, hb, hrb, h⟩
 ·exact .inl h
 ·exact .inr ⟨g, e, hb, hrb.grown hg (by omega), h⟩
theorem rb_sorted {w0 w' : World} {g n B : Nat} {rs L : List Raw} {cur : Array Value} (hPQ : PQ w0 w' g rs B) (hb : w'.heap[g]? = some (.cells cur 62 (0, 0))) (hd : ∀ j, n * 3 ≤ j → cur[j]? = (flat L).toArray[j]?) (hn : rs.length = n) : RB w' g (rs ++ L.drop n) := by
 have e : cur = (flat (rs ++ L.drop n)).toArray := by
  apply Array.ext_getElem?
  intro j
  rw [flat_append, ← flat_drop]
  by_cases hj : j < n * 3
  ·have hi : j / 3 < rs.length := by omega
   have hc := cell_of_row w' g j _ _ (0, 0) hb
   obtain ⟨⟨c0, c1, c2⟩, _⟩ := hPQ.2 (j / 3) hi
   have h3 := flat_get rs (j / 3) (j % 3) hi (Nat.mod_lt _ (by decide))
   rw [show j / 3 * 3 + j % 3 = j from by omega] at h3
   have e4 : (flat rs ++ (flat L).drop (n * 3)).toArray[j]? = (rs[j / 3]).enc[j % 3]? := by
    rw [List.getElem?_toArray, List.getElem?_append_left (by rw [flat_length]; omega), h3]
   rw [e4, ← hc]
   have hm : j % 3 = 0 ∨ j % 3 = 1 ∨ j % 3 = 2 := by omega
   generalize rs[j / 3] = xr at *
   rcases hm with e | e | e
   ·have ej : j = j / 3 * 3 := by omega
    rw [e, ej, c0]; rfl
   ·have ej : j = j / 3 * 3 + 1 := by omega
    rw [e, ej, c1]; rfl
   ·have ej : j = j / 3 * 3 + 2 := by omega
    rw [e, ej, c2]; rfl
  ·rw [hd j (by omega)]
   simp only [List.getElem?_toArray]
   rw [List.getElem?_append_right (by rw [flat_length]; omega), List.getElem?_drop, flat_length, hn]
   congr 1
   omega
 rw [RB, ← e]
 exact hb
set_option maxRecDepth 100000 in
theorem sort_w {w0 w : World} {B g cap n : Nat} {cur : Array Value} {rs : List Raw} (hn : rs.length = n) (hok : ∀ x ∈ rs, x.ok w0 B) (hB : B ≤ 1099511627776) (hk : Below w0.heap.size w0 w) (hg0 : w0.heap.size ≤ g)
  (hcur : w.heap[g]? = some (.cells cur 62 (0, 0))) (hrow : cur.toList.take (n * 3) = flat rs) (hd : (rs.map Raw.v).Nodup) (hnb : n ≤ 1099511627776) :
  Calls Try.prog 79 #[.slice (some ⟨g, 0, none⟩) n cap, .func (.func 67) #[] #[]] w fun e w' => e = .returned (.tuple #[]) ∧ ∃ rs', rs'.Perm rs ∧ rs'.Pairwise (fun x y => x.v < y.v) ∧ PQ w0 w' g rs' B ∧ w.grownBy w' (some g) ∧ ∃ cur', w'.heap[g]? = some (.cells cur' 62 (0, 0)) ∧ cur'.size = cur.size ∧ ∀ j, n * 3 ≤ j → cur'[j]? = cur[j]? := by
 obtain ⟨_⟩ := inhR w0 B
 have hgl : g < w.heap.size := (Array.getElem?_eq_some_iff.1 hcur).1
 let d : Array (RawIn w0 B) := (rs.pmap (fun x h => (⟨x, h⟩ : RawIn w0 B)) hok).toArray
 have hds : d.size = n := by simp [d, hn]
 have hdm : d.toList.map Subtype.val = rs := by
  simp only [d, List.map_pmap]
  simp
 have hget : ∀ i (h : i < rs.length), (d[i]!).1 = rs[i] := by
  intro i h
  have h' : i < d.size := by omega
  rw [getElem!_pos d i h']
  simp [d]
 have hH : HoldsK (encI (w := w0) (B := B)) 3 w g 0 d := by
  intro j hj
  rw [size_flatK] at hj
  have hi : j / 3 < rs.length := by omega
  rw [get_flatK _ _ _ _ hj]
  refine ⟨?_, frozen_of_row w g _ _ _ hcur⟩
  have hc : (flat rs)[j]? = some ((rs[j / 3]).enc[j % 3]!) := by
   have := flat_get rs (j / 3) (j % 3) hi (Nat.mod_lt _ (by decide))
   rw [show j / 3 * 3 + j % 3 = j from by omega] at this
   rw [this]
   have hl : (rs[j / 3]).enc.length = 3 := rfl
   rw [List.getElem!_eq_getElem?_getD, List.getElem?_eq_getElem (by omega)]
   rfl
  rw [Nat.zero_add, show (d[j / 3]!) = d[j / 3]! from rfl]
  show w.cell? ⟨g, j, none⟩ = some ((d[j / 3]!).1.enc[j % 3]!)
  rw [hget _ hi]
  have h2 : cur[j]? = some ((rs[j / 3]).enc[j % 3]!) := by
   rw [← hc, ← hrow, List.getElem?_take, if_pos (by omega)]
   simp
  exact (cell_of_row w g j _ _ (0, 0) hcur).trans h2
 have eg : ∀ args w, (callFunc 67 args).run Try.prog w = .ok (.enter 67 args) w := enters_of Try.func67 (by kernel_rfl) rfl
 have hcon := AnyQ.slices_SortFunc Try.sortP 3 Try.isAgg62 Try.sizeOf62 (encI (w := w0) (B := B)) (fun _ => rfl) (fun x v hv => by simp [encI, Raw.enc] at hv; rcases hv with rfl | rfl | rfl <;> rfl) ordI (swoI w0 B) 67 #[] g 0 cap d w eg (cmp_lays hB hk hg0) hH hgl (by omega)
 rw [hds] at hcon
 change Calls Try.prog 79 _ _ _ at hcon
 refine hcon.mono ?_
 rintro e w' ⟨rfl, d', m, os, hp, hs, rfl⟩
 have hsz : d'.size = n := by rw [hp.1, hds]
 have hperm : (d'.toList.map Subtype.val).Perm rs := by
  have := hp.2.2
  rw [← hds] at this
  have e1 : d.extract 0 d.size = d := by simp
  have e2 : d'.extract 0 d.size = d' := by rw [← hp.1]; simp
  rw [e1, e2] at this
  rw [← hdm]
  exact this.map _
 refine ⟨rfl, d'.toList.map Subtype.val, hperm, ?_, ⟨?_, ?_⟩, sortW_grown _ _ _ _ _ _, _, sortW_block _ _ _ _ _ _ hcur, by simp [putCells], fun j hj => putCells_past _ _ _ (by simp [size_flatK, hsz]; omega)⟩
 ·have hnd : ((d'.toList.map Subtype.val).map Raw.v).Nodup := (hperm.map Raw.v).nodup_iff.2 hd
  rw [List.pairwise_iff_getElem]
  intro i j hi hj hij
  have hi' : i < d'.size := by simpa using hi
  have hj' : j < d'.size := by simpa using hj
  have h1 := hs i j (Nat.zero_le _) hij (by omega)
  rw [ltI_false, getElem!_pos d' i hi', getElem!_pos d' j hj'] at h1
  have h2 := (List.pairwise_iff_getElem.1 hnd) i j (by simpa using hi) (by simpa using hj) hij
  simp only [List.getElem_map, Array.getElem_toList] at h2 ⊢
  omega
 ·exact Nat.lt_of_lt_of_le hgl (sortW_grown _ _ _ _ _ _).size
 ·intro i hi
  have hi' : i < d'.size := by simpa using hi
  have hK := holdsK_sortWorldK_c (encI (w := w0) (B := B)) 3 w g 0 d d' m os hH hgl (by rw [hsz, hds])
  have k0 := hK.cell (i := i) (c := 0) hi' (by decide)
  have k1 := hK.cell (i := i) (c := 1) hi' (by decide)
  have k2 := hK.cell (i := i) (c := 2) hi' (by decide)
  have e : (d'.toList.map Subtype.val)[i] = (d'[i]!).1 := by rw [getElem!_pos d' i hi']; simp
  rw [e]
  simp only [Nat.zero_add, Nat.add_zero] at k0 k1 k2
  exact ⟨⟨k0.1, k1.1, k2.1⟩, ⟨k0.2, k1.2, k2.2⟩, (d'[i]!).2⟩
/-- append of a part to a slice of one's own -/
theorem run_append_rb {base : Nat} {w : World} {v : Value} {n cap : Nat} {L : List Raw} (h : RS base w v n cap L) (hb : base ≤ w.heap.size) (x : Raw) (a : Addr) (ha : ∀ j u, (x.enc)[j]? = some u → w.cell? (a.add j) = some u) (hn : n ≤ 1073741824) (ty : TypeId) :
  ∃ v' w', (Builtin.append_ #[22, 22] ty #[v, .slice (some a) 1 1]).run Try.prog w = .ok v' w' ∧ ∃ cap' L', RS base w' v' (n + 1) cap' L' ∧ L'.take (n + 1) = L.take n ++ [x] ∧ (∀ y ∈ L', y ∈ L ∨ y = x ∨ y = zr) ∧ w.grownBy w' v.ownBlock ∧ (v'.ownBlock = v.ownBlock ∨ v'.ownBlock = some w.heap.size) := by
 obtain ⟨i0, hi, hz0, hz1, hz2⟩ := info_parts infoP
 have hxl : x.enc.length = 1 * i0.size := by rw [hz1]; rfl
 have hx1 : ∀ u ∈ x.enc, u.oneCell' = true := v3_one _ _ _ _ _
 have hfx : x.enc = flat [x] := by simp [flat]
 rcases h with ⟨rfl, rfl, rfl, rfl⟩ | ⟨g, rfl, hg, hr, hl, hnc, hcm⟩
 ·have hr := run_append_nil (P := Try.prog) w 22 ty 62 i0 _ Try.underlying22 hi hz0 a 1 1 x.enc hxl ha (by decide) (by decide) (by rw [hz2]; decide)
  have hge := grownCap_ge w 1 0 62
  have hcm := grownCap_le_maxLen w 1 0 62 (by unfold maxLen; decide)
  rw [zeroP, hfx, List.append_toArray, ← flat_append] at hr
  refine ⟨_, _, hr, _, _, .inr ⟨_, rfl, hb, heap_alloc_new w.drew _, by simp; omega, hge, hcm⟩, by simp, fun y hy => ?_, grown_drew_alloc w _ _, .inr rfl⟩
  rcases List.mem_append.1 hy with h | h
  ·exact .inr (.inl (List.mem_singleton.1 h))
  ·exact .inr (.inr (List.eq_of_mem_replicate h))
 ·by_cases hroom : n + 1 ≤ cap
  ·have hr' := run_append_room (P := Try.prog) w 22 ty 62 i0 Try.underlying22 hi g n cap (flat L).toArray hr a 1 1 x.enc hxl ha hx1 hroom (by rw [hz1]; simp [flat_length]; rw [show x.enc.length = 3 from rfl]; omega)
   have e1 : ((flat L).toArray.toList.take (n * i0.size) ++ x.enc ++ (flat L).toArray.toList.drop (n * i0.size + x.enc.length)) = flat (L.take n ++ [x] ++ L.drop (n + 1)) := by
    rw [hz1, show x.enc.length = 3 from rfl, show n * 3 + 3 = (n + 1) * 3 by omega]
    dsimp only
    rw [flat_take, flat_drop, flat_append, flat_append, hfx]
   rw [e1] at hr'
   refine ⟨_, _, hr', cap, L.take n ++ [x] ++ L.drop (n + 1), .inr ⟨g, rfl, hg, setRow_heap w g _ _ _ _ hr, by simp; omega, hroom, hcm⟩, ?_, fun y hy => ?_, ⟨rfl, rfl, rfl, by simp, fun k _ hk => setRow_other w g k _ (fun e => hk (by simp [Value.ownBlock, e]))⟩, .inl rfl⟩
   ·have e : (L.take n ++ [x]).length = n + 1 := by simp; omega
    rw [← e, List.take_left]
   ·rcases List.mem_append.1 hy with h | h
    ·rcases List.mem_append.1 h with h | h
     ·exact .inl (List.mem_of_mem_take h)
     ·exact .inr (.inl (List.mem_singleton.1 h))
    ·exact .inl (List.mem_of_mem_drop h)
  ·have holds : ∀ j u, (flat (L.take n))[j]? = some u → w.cell? ((⟨g, 0, none⟩ : Addr).add j) = some u := fun j u hu => by
    rw [Addr.add_lit, Nat.zero_add, cell_of_row w g j _ _ (0, 0) hr]
    rw [← flat_take] at hu
    rw [List.getElem?_take] at hu
    split at hu
    ·simpa using hu
    ·cases hu
   have hr' := run_append_grow (P := Try.prog) w 22 ty 62 i0 _ Try.underlying22 hi hz0 ⟨g, 0, none⟩ n cap (flat (L.take n)) (by rw [hz1, flat_length]; simp; omega) holds a 1 1 x.enc hxl ha (by omega) (by omega) (growslice_fits (by omega) (by rw [hz2]; omega))
   have hge := grownCap_ge w (n + 1) cap 62
   have hcm' := grownCap_le_maxLen w (n + 1) cap 62 (by unfold maxLen; omega)
   rw [zeroP, hfx, List.append_toArray, List.append_toArray, ← flat_append, ← flat_append] at hr'
   refine ⟨_, _, hr', _, _, .inr ⟨_, rfl, hb, heap_alloc_new w.drew _, by simp; omega, hge, hcm'⟩, ?_, fun y hy => ?_, grown_drew_alloc w _ _, .inr rfl⟩
   ·have e : (L.take n ++ [x]).length = n + 1 := by simp; omega
    rw [← e, List.take_left]
   ·rcases List.mem_append.1 hy with h | h
    ·rcases List.mem_append.1 h with h | h
     ·exact .inl (List.mem_of_mem_take h)
     ·exact .inr (.inl (List.mem_singleton.1 h))
    ·exact .inr (.inr (List.eq_of_mem_replicate h))

set_option maxRecDepth 100000 in
set_option maxHeartbeats 1600000 in
theorem stand_p {F : Nat} {w : World} {m n B : Nat} {f : Int → Int} {s : Bool} {a : Option Addr} {l c : Nat} {k : Int} (hF : F ≤ w.heap.size) (hG : GM F w m n f B) (hz : Go.Proofs.Ytagjfhipjbpoiaa.Zm w s a l c k) (hl : l ≤ 1099511627775) (hB : B ≤ 1099511627776) (hn : n ≤ 1073741824) :
  Calls Try.prog 53 #[.map (some m), .agg #[.bool s, .slice a l c]] w fun e w' => ∃ ad len cap s' a' l' c' rs, e = .returned (.agg #[.slice ad len cap, .bool s', .slice a' l' c']) ∧ Tr w w' ad len rs B ∧ len ≤ n ∧ Std (rs.map Raw.p) ∧ (∀ v, I64 v → csum (rs.map Raw.p) v = f v) ∧ Kn w' ad s' a' l' c' k ∧ l' ≤ l + 1 ∧ Below w.heap.size w w' ∧ NW F w' ad len cap a' l' c' := by
 obtain ⟨D, hown, hGF⟩ := hG
 have hGA := hGF.old
 replace hGF := hide hGF
 replace hF := hide hF
 go_enter Try.func53, Try.ntmps53
 go_wp2_with (at_range; refine wpList_range_own _ rfl _ 66 rfl 3 25 tk Try.underlying66 _ m n D rfl ((hown.alloc _).alloc _) ?_; intro w1 hrg0 hg0 hs0)
 go_frame
 have x := (zb_new w s a l c).below (below_alloc _ (.cells #[.slice none 0 0, .bool false, .slice none 0 0] 27))
 have y := tb_new (w.alloc (.cells #[.bool s, .slice a l c] 25)) none 0 0 false none 0 0
 have b0 : Below w.heap.size w ((w.alloc (.cells #[.bool s, .slice a l c] 25)).alloc (.cells #[.slice none 0 0, .bool false, .slice none 0 0] 27)) := below_alloc' (below_alloc _ _) _
 rw [show ((w.alloc (.cells #[.bool s, .slice a l c] 25)).alloc (.cells #[.slice none 0 0, .bool false, .slice none 0 0] 27)).heap.size = w.heap.size + 2 from by simp] at *
 rw [show (w.alloc (.cells #[.bool s, .slice a l c] 25)).heap.size = w.heap.size + 1 from by simp] at y
 generalize (w.alloc (.cells #[.bool s, .slice a l c] 25)).alloc (.cells #[.slice none 0 0, .bool false, .slice none 0 0] 27) = wb at *
 replace x := x.below (gb_none hg0)
 replace y := y.below (gb_none hg0)
 replace b0 := hide (grow_step (gb_none hg0) b0)
 clear hg0
 have hpq : w.heap.size < w.heap.size + 1 ∧ w.heap.size + 1 < w.heap.size + 2 ∧ w.heap.size + 2 < w1.heap.size := by omega
 have hsz0 := hrg0.owns.size_le
 have hml := hide hown.lt
 clear hs0 hown
 generalize hp : w.heap.size = p at *
 replace b0 : Hid (Below w.heap.size w w1) := hp ▸ b0
 replace hml : Hid (m < w.heap.size) := hp ▸ hml
 replace hF : Hid (F ≤ w.heap.size) := hp ▸ hF
 replace hp := hide hp
 generalize p + 1 = q at *
 generalize p + 2 = r at *
 replace hpq := hide hpq
 go_loopw [5] (fun parts wr => ∃ rs left cnt cap L, wr.ranges Try.prog 3 elemR m r n D left cnt ∧ Hid (RS w1.heap.size wr parts rs.length cap L ∧ L.take rs.length = rs ∧ New F w L) ∧ ZB wr p s a l c ∧ TB wr q none 0 0 false none 0 0 ∧ Hid (Below w.heap.size w wr ∧ w1.heap.size ≤ wr.heap.size ∧ Col w f B left rs) ∧ rs.length + cnt ≤ n) (fun _ wr => wr.rangeLeft m r)
 case atStart => exact ⟨[], _, _, 0, [], hrg0, ⟨.inl ⟨rfl, rfl, rfl, rfl⟩, rfl, fun x hx => by cases hx⟩, x, y, ⟨b0.out, Nat.le_refl _, col_start hGA⟩, by simpa using hsz0⟩
 case round =>
  obtain ⟨rs, left, cnt, cap, L, hrg, hRL, hx, hy, hH, hcnt⟩ := hrel
  go_wp2_with (at_next; refine wpList_next_z rfl _ rfl m r n D left cnt rfl hrg (fun hl0 => ?_) (fun v s1 a1 l1 c1 w2 cnt2 hv hlk hat hrg2 hlt hgr hen => ?_))
  ·have u0 := hx.c0
   have u1 := hx.c1
   have hB2 := hide hH.out.1
   have hC := hide hH.out.2.2
   have hs1 := hide hH.out.2.1
   rcases hRL.out.1 with ⟨hu, h0, hc0, hL0⟩ | ⟨g, hu, hbase, hrb, hLl, hnc, hcm⟩
   ·subst hu
    obtain rfl : rs = [] := List.eq_nil_of_length_eq_zero h0
    have hsort : Calls Try.prog 79 #[.slice none 0 0, .func (.func 67) #[] #[]] wr fun e w' => e = .returned (.tuple #[]) ∧ w' = wr := AnyF.slices_SortFunc_none Try.sortP none 0 _ wr
    refine hsort.mono ?_
    rintro e w5 ⟨rfl, rfl⟩
    clear hsort
    go_wp2_with fail
    refine (norm_n (zm_of (hz.below hB2.out) (Nat.le_refl _)) (by omega)).mono ?_
    rintro e w6 ⟨s', ad', l', c', rfl, hz6, k6, hl6⟩
    have hql := hy.lt
    have y6 := hy.below k6
    have y0 := y6.c0
    have y1 := y6.c1
    have y2 := y6.c2
    have f0 := y6.f 0
    have f1 := y6.f 1
    have f2 := y6.f 2
    have hwF := hide hB2.out.size
    replace hB2 := hide (grow_step k6 hB2.out)
    replace hz6 := hide hz6
    clear k6
    go_wp2
    refine bodyPost_ret (results_cell_row rfl _ _ q 27 _ (0, 0) _ rfl (tb_fin y6 none 0 0 s' ad' l' c') Try.underlying27 rfl (by kernel_rfl)) rfl ?_
    have hzf := fzn_mono (fzn_grown hz6.out (tb_set w6 q (.slice none 0 0) (.bool s') (.slice ad' l' c')) hql) (Nat.le_trans hF.out hwF.out)
    exact ⟨none, 0, 0, s', ad', l', c', [], by simp, ⟨rfl, .inl ⟨rfl, rfl⟩⟩, Nat.zero_le _, std_nil, fun u hu => col_end hC.out hl0 u hu, ⟨hzf.zn, fun g e => by cases e⟩, hl6, below_grown hB2.out (tb_set _ _ _ _ _) (by have := hp.out; have := hpq.out; omega), [], .inl ⟨rfl, rfl, rfl, rfl⟩, fun x hx => (by cases hx), zn_lc hzf, hzf.fr⟩
   ·subst hu
    have hwg : w.heap.size ≤ g := by have := hp.out; have := hpq.out; omega
    refine (sort_w (B := B) (cap := cap) (cur := (flat L).toArray) rfl hC.out.ok hB hB2.out hwg hrb (by rw [List.toList_toArray, flat_take, hRL.out.2.1]) hC.out.nd (by omega)).mono ?_
    rintro e w5 ⟨rfl, rs', hperm, hpw, hPQ, hg5, cur', hb5, hs5, hd5⟩
    have hRB := hide (rb_sorted hPQ hb5 hd5 hperm.length_eq)
    have hNL : Hid (New F w (rs' ++ L.drop rs.length)) := fun x hx => by
     rcases List.mem_append.1 hx with h | h
     ·have h' := hperm.mem_iff.1 h
      rw [← hRL.out.2.1] at h'
      exact hRL.out.2.2 x (List.mem_of_mem_take h')
     ·exact hRL.out.2.2 x (List.mem_of_mem_drop h)
    have hLL : Hid ((rs' ++ L.drop rs.length).length = cap) := (show _ = _ by rw [List.length_append, hperm.length_eq, List.length_drop]; omega)
    have x5 := hx.grown hg5 (by have := hpq.out; omega)
    have y5 := hy.grown hg5 (by have := hpq.out; omega)
    replace u0 := x5.c0
    replace u1 := x5.c1
    replace hB2 := hide (below_grown hB2.out hg5 hwg)
    have hlen := hide hperm.length_eq
    replace hC := hide (col_std hC.out hl0 hperm hpw)
    clear hg5 hrg hx hy hH hperm hpw hb5 hs5 hd5 hrb hRL
    go_wp2_with fail
    refine (norm_n (B := w5.heap.size) (zm_of (hz.below hB2.out) (Nat.le_refl _)) (by omega)).mono ?_
    rintro e w6 ⟨s', ad', l', c', rfl, hz6, k6, hl6⟩
    replace hz6 := fzn_mono hz6 (B' := g + 1) hPQ.1
    have y6 := y5.below k6
    have y0 := y6.c0
    have y1 := y6.c1
    have y2 := y6.c2
    have f0 := y6.f 0
    have f1 := y6.f 1
    have f2 := y6.f 2
    replace hB2 := hide (grow_step k6 hB2.out)
    replace hPQ := hide (hPQ.below k6)
    replace hRB := hide (hRB.out.below k6)
    replace hz6 := hide hz6
    clear k6 y5 x5 u0 u1
    go_wp2
    refine bodyPost_ret (results_cell_row rfl _ _ q 27 _ (0, 0) _ rfl (tb_fin y6 (some ⟨g, 0, none⟩) rs.length cap s' ad' l' c') Try.underlying27 rfl (by kernel_rfl)) rfl ?_
    have hqg : q < g := by have := hpq.out; omega
    have hzf := fzn_grown hz6.out (tb_set w6 q (.slice (some ⟨g, 0, none⟩) rs.length cap) (.bool s') (.slice ad' l' c')) (by omega)
    have hBf := below_grown hB2.out (tb_set w6 q (.slice (some ⟨g, 0, none⟩) rs.length cap) (.bool s') (.slice ad' l' c')) (by have := hp.out; have := hpq.out; omega)
    have hFg : F ≤ g := Nat.le_trans hF.out hwg
    exact ⟨some ⟨g, 0, none⟩, rs.length, cap, s', ad', l', c', rs', by simp, ⟨hlen.out, .inr ⟨g, rfl, hwg, hPQ.out.grown (tb_set _ _ _ _ _) (by omega)⟩⟩, by omega, hC.out.1, hC.out.2, ⟨hzf.zn, fun g' e => by cases e; exact hzf⟩, hl6, hBf, rs' ++ L.drop rs.length, .inr ⟨g, rfl, hFg, hRB.out.grown (tb_set _ _ _ _ _) (by omega), hLL.out, hnc, hcm⟩, hNL.out.below hBf, zn_lc hzf, (fzn_mono hzf (Nat.le_succ_of_le hFg)).fr⟩
  ·have hB2 : Hid (Below w.heap.size w w2) := below_grown hH.out.1 hgr (by have := hpq.out; have := hp.out; omega)
   have hZ : Zn F w s1 a1 l1 c1 (f v) ∧ l1 ≤ B := by
    rcases hGF.out v hv with ⟨h1, _⟩ | ⟨s', a', l', c', h1, h2, h3⟩
    ·rw [Maps.has_true_of_atKey hat] at h1; cases h1
    ·have := (hat (.held (.bool true))).symm.trans (h1 _)
     simp at this
     obtain ⟨rfl, rfl, rfl, rfl⟩ := this
     exact ⟨h2, h3⟩
   obtain ⟨hZ, hl1⟩ := hZ
   have hZF := hide hZ
   replace hZ := hZ.zn
   have hR2 := hide (rs_kept hRL.out.1 hgr hpq.out.2.2)
   have hx2 := hx.grown hgr (by have := hpq.out; omega)
   have hy2 := hy.grown hgr (by have := hpq.out; omega)
   have kb := below_alloc w2 (.cells #[.bool s1, .slice a1 l1 c1] 25)
   have x3 := zb_new w2 s1 a1 l1 c1
   refine (zsign_n ((hZ.below hB2.out).below kb).zm (by omega)).mono ?_
   rintro e w3 ⟨rfl, k3⟩
   replace x3 := x3.below k3
   replace k3 := grow_step k3 kb
   have hrg3 := hrg2.kept (bg k3) (by simp) (by simp)
   replace hR2 := hide (hR2.out.below k3)
   replace hx2 := hx2.below k3
   replace hy2 := hy2.below k3
   replace hB2 := hide (grow_step k3 hB2.out)
   have hs3 := hide (Nat.le_trans hH.out.2.1 (Nat.le_trans hgr.size k3.size))
   have hC := hide hH.out.2.2
   clear hH hgr hen kb k3 hx hy hrg2
   generalize w2.heap.size = qb at *
   by_cases hf : f v = 0
   ·have e0 : cmpI (f v) 0 = 0 := cmpI_eq hf
    rw [e0]
    go_wp2_with fail
    exact ⟨⟨rs, _, cnt2, cap, L, hrg3, ⟨hR2.out, hRL.out.2⟩, hx2, hy2, ⟨hB2.out, hs3.out, col_skip hC.out hf⟩, by omega⟩, by rw [hrg3.left_eq, hrg.left_eq]; exact hlt⟩
   ·have e0 : cmpI (f v) 0 ≠ 0 := by unfold cmpI; split <;> (try split) <;> omega
    have u0 := x3.c0
    have u1 := x3.c1
    have kz := below_alloc w3 (.cells #[.int .i64 v, .bool s1, .slice a1 l1 c1] 62)
    have happ := hide (run_append_rb (hR2.out.below kz) (Nat.le_trans hs3.out kz.size) ⟨v, s1, a1, l1, c1, f v⟩ ⟨w3.heap.size, 0, none⟩ (v3_new w3 v s1 a1 l1 c1) (by omega))
    replace kz := hide kz
    generalize cmpI (f v) 0 = sgn at *
    go_wp2_with (at_builtin; refine wpList_append_run rfl _ _ 22 rfl _ _ rfl rfl _ (happ.out _) ?_; rintro v5 w4 ⟨cap5, L5, hR5, htk, hmem, hgrow, -⟩; replace hR5 := hide hR5; replace hmem := hide hmem; replace hgrow := hide hgrow; replace htk := hide htk)
    have hob : ∀ b, b < w1.heap.size → some b ≠ u5.ownBlock := fun b hb e => by have := (rs_own hR2.out e.symm).1; omega
    have ka := kz.out
    have hmw : m < w1.heap.size := by have := hml.out; have := hp.out; have := hpq.out; omega
    have hrg4 := (hrg3.kept (bg ka) (by simp) (by simp)).kept hgrow.out (hob m hmw) (hob r hpq.out.2.2)
    refine ⟨⟨rs ++ [⟨v, s1, a1, l1, c1, f v⟩], _, cnt2, cap5, L5, hrg4, ⟨?_, ?_, ?_⟩, ?_, ?_, ⟨?_, ?_, ?_⟩, ?_⟩, by rw [hrg4.left_eq, hrg.left_eq]; exact hlt⟩
    ·rw [List.length_append]
     exact hR5.out
    ·rw [List.length_append]
     show L5.take (rs.length + 1) = _
     rw [htk.out, hRL.out.2.1]
    ·intro y hy
     rcases hmem.out y hy with h | rfl | rfl
     ·exact hRL.out.2.2 y h
     ·exact ⟨zn_lc hZF.out, hZF.out.fr⟩
     ·exact ⟨Nat.le_refl _, .inl ⟨rfl, rfl⟩⟩
    ·exact (hgrow.out.block p (hx2.below ka).lt (hob p (by have := hpq.out; omega))).trans (hx2.below ka)
    ·exact (hgrow.out.block q (hy2.below ka).lt (hob q (by have := hpq.out; omega))).trans (hy2.below ka)
    ·exact (grow_step ka hB2.out).grown hgrow.out (grow_step ka hB2.out).size (fun k e => by have := (rs_own hR2.out e).1; have := hp.out; have := hpq.out; omega)
    ·exact Nat.le_trans hs3.out (Nat.le_trans ka.size hgrow.out.size)
    ·exact col_step (x := ⟨v, s1, a1, l1, c1, f v⟩) hC.out ⟨hZ, hl1, hv⟩ rfl hf hlk
    ·simp only [List.length_append, List.length_cons, List.length_nil]; omega
end Go.Proofs.Ytagjfhipjbpoiaa.Fresh

namespace Go.Proofs.Ytagjfhipjbpoiaa.Fresh
open Go.RowKit Go.Sort Go.Shelf
open Tm

theorem fle {F : Nat} {w w' : World} (h : F ≤ w.heap.size) (hb : Below w.heap.size w w') : F ≤ w'.heap.size := Nat.le_trans h hb.size
set_option maxRecDepth 100000 in
set_option maxHeartbeats 3200000 in
theorem tnorm_n {F : Nat} {w : World} {ad : Option Addr} {n cp : Nat} {s : Bool} {a : Option Addr} {l c : Nat} {ps : List (Int × Int)} {k : Int} {B : Nat} (hF : F ≤ w.heap.size) (hP : Pr w ad n ps B) (hz : Go.Proofs.Ytagjfhipjbpoiaa.Zm w s a l c k) (hl : l ≤ B) (hB : B + n ≤ 536870912) :
  Calls Try.prog 12 #[.agg #[.slice ad n cp, .bool s, .slice a l c]] w fun e w' => ∃ ad' n' cp' s' a' l' c' rs, e = .returned (.agg #[.slice ad' n' cp', .bool s', .slice a' l' c']) ∧ TN w w' ad' n' s' a' l' c' rs k (B + n + 1) ∧ n' ≤ n ∧ Std (rs.map Raw.p) ∧ (∀ v, csum (rs.map Raw.p) v = csum ps v) ∧ NW F w' ad' n' cp' a' l' c' := by
 go_enter Try.func12, Try.ntmps12
 go_wp2_with fail
 have x := (tb_new w ad n cp s a l c).below (below_alloc _ (.cells #[.slice none 0 0, .bool false, .slice none 0 0] 27))
 have y := tb_new (w.alloc (.cells #[.slice ad n cp, .bool s, .slice a l c] 27)) none 0 0 false none 0 0
 have b0 : Below w.heap.size w ((w.alloc (.cells #[.slice ad n cp, .bool s, .slice a l c] 27)).alloc (.cells #[.slice none 0 0, .bool false, .slice none 0 0] 27)) := below_alloc' (below_alloc _ _) _
 rw [show (w.alloc (.cells #[.slice ad n cp, .bool s, .slice a l c] 27)).heap.size = w.heap.size + 1 from by simp] at y
 generalize (w.alloc (.cells #[.slice ad n cp, .bool s, .slice a l c] 27)).alloc (.cells #[.slice none 0 0, .bool false, .slice none 0 0] 27) = wb at *
 have hpr : w.heap.size < w.heap.size + 1 := by omega
 replace hP := hP.below b0
 replace hz := hz.below b0
 have hFb := hide (Nat.le_trans hF b0.size)
 generalize hp : w.heap.size = p at *
 replace hp := hide hp
 generalize p + 1 = r at *
 have hrb := Nat.le_of_lt y.lt
 go_region_held3 (fun w' => w'.cell? ⟨p, 0, none⟩ = some (.slice ad n cp) ∧ w'.cell? ⟨p, 1, none⟩ = some (.bool s) ∧ w'.cell? ⟨p, 2, none⟩ = some (.slice a l c) ∧ Below r wb w')
  ((refine tk3 x hpr ?_; first | (refine Below.mono ?_ hrb; focus ((repeat' (first | with_reducible exact Below.refl _ _ | with_reducible assumption | with_reducible refine grow_step (by with_reducible assumption) ?_ | with_reducible refine grow_drew ?_ | with_reducible refine grow_alloc ?_ _ | with_reducible refine grow_drewN ?_ _)); done)) | (refine (((Below.mono ?_ hrb).setCell (Nat.le_refl _) _).setCell (Nat.le_refl _) _).setCell (Nat.le_refl _) _; focus ((repeat' (first | with_reducible exact Below.refl _ _ | with_reducible assumption | with_reducible refine grow_step (by with_reducible assumption) ?_ | with_reducible refine grow_drew ?_ | with_reducible refine grow_alloc ?_ _ | with_reducible refine grow_drewN ?_ _)); done))))
  (first | (go_at_call 54; refine (gather1 (F := F) (fle hFb.out (by (repeat' (first | with_reducible exact Below.refl _ _ | with_reducible assumption | with_reducible refine grow_step (by with_reducible assumption) ?_ | with_reducible refine grow_drew ?_ | with_reducible refine grow_alloc ?_ _ | with_reducible refine grow_drewN ?_ _)))) (by exact heap_alloc_new wb _) (Pr.below hP (by (repeat' (first | with_reducible exact Below.refl _ _ | with_reducible assumption | with_reducible refine grow_step (by with_reducible assumption) ?_ | with_reducible refine grow_drew ?_ | with_reducible refine grow_alloc ?_ _ | with_reducible refine grow_drewN ?_ _)))) hB).mono ?_; rintro e w1 ⟨m, rfl, hG, k1, hm⟩) | (go_at_call 53; refine (stand_p (fle hFb.out (by (repeat' (first | with_reducible exact Below.refl _ _ | with_reducible assumption | with_reducible refine grow_step (by with_reducible assumption) ?_ | with_reducible refine grow_drew ?_ | with_reducible refine grow_alloc ?_ _ | with_reducible refine grow_drewN ?_ _)))) hG (Go.Proofs.Ytagjfhipjbpoiaa.Zm.below hz (by (repeat' (first | with_reducible exact Below.refl _ _ | with_reducible assumption | with_reducible refine grow_step (by with_reducible assumption) ?_ | with_reducible refine grow_drew ?_ | with_reducible refine grow_alloc ?_ _ | with_reducible refine grow_drewN ?_ _)))) (by omega) (by omega) (by omega)).mono ?_; rintro e w2 ⟨ad', n', cp', s', a', l', c', rs, rfl, hT, hn', hStd, hcs, hz2, hl2, k2, hNW⟩; replace hNW := hide hNW; have kW := mid k2 (show Below wb.heap.size wb _ by (repeat' (first | with_reducible exact Below.refl _ _ | with_reducible assumption | with_reducible refine grow_step (by with_reducible assumption) ?_ | with_reducible refine grow_drew ?_ | with_reducible refine grow_alloc ?_ _ | with_reducible refine grow_drewN ?_ _))); have y1' := TB.below y kW; have y' := y1'.below k2; have y0 := y'.c0; have y1 := y'.c1; have y2 := y'.c2; have y3 := y'.f 0; have y4 := y'.f 1; have y5 := y'.f 2))
 have hi1 := hP.i64
 clear hP hG
 go_wp2
 refine bodyPost_ret (results_cell_row rfl _ _ r 27 _ (0, 0) _ rfl (tb_fin y' ad' n' cp' s' a' l' c') Try.underlying27 rfl (by kernel_rfl)) rfl ?_
 have hTN : TN w _ ad' n' s' a' l' c' rs k (B + n + 1) := tn_fin (hp.out.symm ▸ b0.trans (kW.mono (Nat.le_of_lt (Nat.lt_trans hpr y.lt)))) k2 (hT.mono (by omega)) y1' (by have := hp.out; omega) hz2 (by omega) cp'
 exact ⟨ad', n', cp', s', a', l', c', rs, by simp, hTN, hn', hStd, csum_all hTN.pr.i64 hi1 hcs, hNW.out.tb y' (tb_set _ _ _ _ _)⟩
set_option maxRecDepth 100000 in
set_option maxHeartbeats 6400000 in
theorem tadd_n {F : Nat} {w : World} {ad : Option Addr} {n cp : Nat} {s : Bool} {a : Option Addr} {l c : Nat} {ps : List (Int × Int)} {k : Int} {ad2 : Option Addr} {n2 cp2 : Nat} {s2 : Bool} {a2 : Option Addr} {l2 c2 : Nat} {qs : List (Int × Int)} {k2 : Int} {B : Nat} (hF : F ≤ w.heap.size) (hP : Pr w ad n ps B) (hz : Go.Proofs.Ytagjfhipjbpoiaa.Zm w s a l c k) (hl : l ≤ B) (hP2 : Pr w ad2 n2 qs B) (hz2 : Go.Proofs.Ytagjfhipjbpoiaa.Zm w s2 a2 l2 c2 k2) (hl2 : l2 ≤ B) (hB : B + (n + n2) ≤ 536870912) :
  Calls Try.prog 21 #[.agg #[.slice ad n cp, .bool s, .slice a l c], .agg #[.slice ad2 n2 cp2, .bool s2, .slice a2 l2 c2]] w fun e w' => ∃ ad' n' cp' s' a' l' c' rs, e = .returned (.agg #[.slice ad' n' cp', .bool s', .slice a' l' c']) ∧ TN w w' ad' n' s' a' l' c' rs (k + k2) (B + (n + n2) + 2) ∧ n' ≤ n + n2 ∧ Std (rs.map Raw.p) ∧ (∀ v, csum (rs.map Raw.p) v = csum (ps ++ qs) v) ∧ NW F w' ad' n' cp' a' l' c' := by
 go_enter Try.func21, Try.ntmps21
 go_wp2_with fail
 have x := ((tb_new w ad n cp s a l c).below (below_alloc _ (.cells #[.slice ad2 n2 cp2, .bool s2, .slice a2 l2 c2] 27))).below (below_alloc _ (.cells #[.slice none 0 0, .bool false, .slice none 0 0] 27))
 have x2 := (tb_new (w.alloc (.cells #[.slice ad n cp, .bool s, .slice a l c] 27)) ad2 n2 cp2 s2 a2 l2 c2).below (below_alloc _ (.cells #[.slice none 0 0, .bool false, .slice none 0 0] 27))
 have y := tb_new ((w.alloc (.cells #[.slice ad n cp, .bool s, .slice a l c] 27)).alloc (.cells #[.slice ad2 n2 cp2, .bool s2, .slice a2 l2 c2] 27)) none 0 0 false none 0 0
 have b0 : Below w.heap.size w (((w.alloc (.cells #[.slice ad n cp, .bool s, .slice a l c] 27)).alloc (.cells #[.slice ad2 n2 cp2, .bool s2, .slice a2 l2 c2] 27)).alloc (.cells #[.slice none 0 0, .bool false, .slice none 0 0] 27)) := below_alloc' (below_alloc' (below_alloc _ _) _) _
 rw [show (w.alloc (.cells #[.slice ad n cp, .bool s, .slice a l c] 27)).heap.size = w.heap.size + 1 from by simp] at x2
 rw [show ((w.alloc (.cells #[.slice ad n cp, .bool s, .slice a l c] 27)).alloc (.cells #[.slice ad2 n2 cp2, .bool s2, .slice a2 l2 c2] 27)).heap.size = w.heap.size + 1 + 1 from by simp] at y
 generalize ((w.alloc (.cells #[.slice ad n cp, .bool s, .slice a l c] 27)).alloc (.cells #[.slice ad2 n2 cp2, .bool s2, .slice a2 l2 c2] 27)).alloc (.cells #[.slice none 0 0, .bool false, .slice none 0 0] 27) = wb at *
 have hpr : w.heap.size < w.heap.size + 1 + 1 := by omega
 have hpr2 : w.heap.size + 1 < w.heap.size + 1 + 1 := by omega
 replace hP := hP.below b0
 replace hz := hz.below b0
 replace hP2 := hP2.below b0
 replace hz2 := hz2.below b0
 have hFb := hide (Nat.le_trans hF b0.size)
 generalize hp : w.heap.size = p at *
 replace hp := hide hp
 generalize p + 1 = p2 at *
 generalize p2 + 1 = r at *
 have hrb := Nat.le_of_lt y.lt
 go_region_held3 (fun w' => w'.cell? ⟨p, 0, none⟩ = some (.slice ad n cp) ∧ w'.cell? ⟨p, 1, none⟩ = some (.bool s) ∧ w'.cell? ⟨p, 2, none⟩ = some (.slice a l c) ∧ w'.cell? ⟨p2, 0, none⟩ = some (.slice ad2 n2 cp2) ∧ w'.cell? ⟨p2, 1, none⟩ = some (.bool s2) ∧ w'.cell? ⟨p2, 2, none⟩ = some (.slice a2 l2 c2) ∧ Below r wb w')
  ((refine tk6 x x2 hpr hpr2 ?_; first | (refine Below.mono ?_ hrb; focus ((repeat' (first | with_reducible exact Below.refl _ _ | with_reducible assumption | with_reducible refine grow_step (by with_reducible assumption) ?_ | with_reducible refine grow_drew ?_ | with_reducible refine grow_alloc ?_ _ | with_reducible refine grow_drewN ?_ _)); done)) | (refine (((Below.mono ?_ hrb).setCell (Nat.le_refl _) _).setCell (Nat.le_refl _) _).setCell (Nat.le_refl _) _; focus ((repeat' (first | with_reducible exact Below.refl _ _ | with_reducible assumption | with_reducible refine grow_step (by with_reducible assumption) ?_ | with_reducible refine grow_drew ?_ | with_reducible refine grow_alloc ?_ _ | with_reducible refine grow_drewN ?_ _)); done))))
  (first | (go_at_call 54; refine (gather2 (F := F) (fle hFb.out (by (repeat' (first | with_reducible exact Below.refl _ _ | with_reducible assumption | with_reducible refine grow_step (by with_reducible assumption) ?_ | with_reducible refine grow_drew ?_ | with_reducible refine grow_alloc ?_ _ | with_reducible refine grow_drewN ?_ _)))) (by first | exact heap_alloc_new _ _ | exact (kA.block _ (by simp)).trans (heap_alloc_new wb _)) (Pr.below hP (by (repeat' (first | with_reducible exact Below.refl _ _ | with_reducible assumption | with_reducible refine grow_step (by with_reducible assumption) ?_ | with_reducible refine grow_drew ?_ | with_reducible refine grow_alloc ?_ _ | with_reducible refine grow_drewN ?_ _)))) (Pr.below hP2 (by (repeat' (first | with_reducible exact Below.refl _ _ | with_reducible assumption | with_reducible refine grow_step (by with_reducible assumption) ?_ | with_reducible refine grow_drew ?_ | with_reducible refine grow_alloc ?_ _ | with_reducible refine grow_drewN ?_ _)))) hB).mono ?_; rintro e w1 ⟨m, rfl, hG, k1, hm⟩) | (go_at_call 46; refine (Go.Proofs.Ytagjfhipjbpoiaa.zadd_n (Go.Proofs.Ytagjfhipjbpoiaa.Zm.below hz (by (repeat' (first | with_reducible exact Below.refl _ _ | with_reducible assumption | with_reducible refine grow_step (by with_reducible assumption) ?_ | with_reducible refine grow_drew ?_ | with_reducible refine grow_alloc ?_ _ | with_reducible refine grow_drewN ?_ _)))) (Go.Proofs.Ytagjfhipjbpoiaa.Zm.below hz2 (by (repeat' (first | with_reducible exact Below.refl _ _ | with_reducible assumption | with_reducible refine grow_step (by with_reducible assumption) ?_ | with_reducible refine grow_drew ?_ | with_reducible refine grow_alloc ?_ _ | with_reducible refine grow_drewN ?_ _)))) (by omega) (by omega)).mono ?_; rintro e wA ⟨sA, aA, lA, cA, rfl, hzA, kA, hlA⟩) | (go_at_call 53; refine (stand_p (fle hFb.out (by (repeat' (first | with_reducible exact Below.refl _ _ | with_reducible assumption | with_reducible refine grow_step (by with_reducible assumption) ?_ | with_reducible refine grow_drew ?_ | with_reducible refine grow_alloc ?_ _ | with_reducible refine grow_drewN ?_ _)))) (GM.below hG (by (repeat' (first | with_reducible exact Below.refl _ _ | with_reducible assumption | with_reducible refine grow_step (by with_reducible assumption) ?_ | with_reducible refine grow_drew ?_ | with_reducible refine grow_alloc ?_ _ | with_reducible refine grow_drewN ?_ _)))) (Go.Proofs.Ytagjfhipjbpoiaa.Zm.below hzA.zm (by (repeat' (first | with_reducible exact Below.refl _ _ | with_reducible assumption | with_reducible refine grow_step (by with_reducible assumption) ?_ | with_reducible refine grow_drew ?_ | with_reducible refine grow_alloc ?_ _ | with_reducible refine grow_drewN ?_ _)))) (by omega) (by omega) (by omega)).mono ?_; rintro e w2 ⟨ad', n', cp', s', a', l', c', rs, rfl, hT, hn', hStd, hcs, hzR, hlR, kR, hNW⟩; replace hNW := hide hNW; have kW := mid kR (show Below wb.heap.size wb _ by (repeat' (first | with_reducible exact Below.refl _ _ | with_reducible assumption | with_reducible refine grow_step (by with_reducible assumption) ?_ | with_reducible refine grow_drew ?_ | with_reducible refine grow_alloc ?_ _ | with_reducible refine grow_drewN ?_ _))); have y1' := TB.below y kW; have y' := y1'.below kR; have y0 := y'.c0; have y1 := y'.c1; have y2 := y'.c2; have y3 := y'.f 0; have y4 := y'.f 1; have y5 := y'.f 2))
 all_goals
  have hi1 := hP.i64
  have hi2 := hP2.i64
  clear hP hP2 hG hz hz2
  go_wp2
  refine bodyPost_ret (results_cell_row rfl _ _ r 27 _ (0, 0) _ rfl (tb_fin y' ad' n' cp' s' a' l' c') Try.underlying27 rfl (by kernel_rfl)) rfl ?_
  have hTN : TN w _ ad' n' s' a' l' c' rs (k + k2) (B + (n + n2) + 2) := tn_fin (hp.out.symm ▸ b0.trans (kW.mono (Nat.le_of_lt (Nat.lt_trans hpr y.lt)))) kR (hT.mono (by omega)) y1' (by have := hp.out; omega) hzR (by omega) cp'
  exact ⟨ad', n', cp', s', a', l', c', rs, by simp, hTN, hn', hStd, csum_all hTN.pr.i64 (fun q hq => (List.mem_append.1 hq).elim (hi1 q) (hi2 q)) hcs, hNW.out.tb y' (tb_set _ _ _ _ _)⟩
theorem wpList_del_z {F : Nat} {w : World} {ops : Array Oper} {rest : List Oper} {o : Oper} {a : Act} {Q : Exit → Act → World → Prop} (hg : o.guard = none) (m x : Operand) (hop : o.op = Op.call { callee := Callee.builtin Builtin.delete, args := #[m, x], argTypes := #[66, 3] })
  (b n B : Nat) (f : Int → Int) (v : Int) (hm : a.eval m = .map (some b)) (hx : a.eval x = .int .i64 v) (h : GM F w b n f B) (hv : I64 v)
  (hK : ∀ w', GM F w' b n (fun u => if u = v then 0 else f u) B → w.grownBy w' (some b) → wpList Try.prog ops Q rest (a.put o.dst (.tuple #[])) w') :
  wpList Try.prog ops Q (o :: rest) a w := by
 refine wpList_plain hg fun K' hK' => ?_
 obtain ⟨w', hrun, r1, r2⟩ := h.del hv o.type
 unfold Oper.wp
 simp [execOp, hop, resolve, invoke, builtin, hm, hx, hrun, Result.andThen]
 exact hK' _ _ (hK w' r1 r2)
set_option maxRecDepth 100000 in
set_option maxHeartbeats 3200000 in
theorem twithout_n {F : Nat} {w : World} {ad : Option Addr} {n cp : Nat} {s : Bool} {a : Option Addr} {l c : Nat} {ps : List (Int × Int)} {k : Int} {B : Nat} {v : Int} (hF : F ≤ w.heap.size) (hP : Pr w ad n ps B) (hz : Go.Proofs.Ytagjfhipjbpoiaa.Zm w s a l c k) (hl : l ≤ B) (hB : B + n ≤ 536870912) (hv : I64 v) :
  Calls Try.prog 25 #[.agg #[.slice ad n cp, .bool s, .slice a l c], .int .i64 v] w fun e w' => ∃ ad' n' cp' s' a' l' c' rs, e = .returned (.agg #[.slice ad' n' cp', .bool s', .slice a' l' c']) ∧ TN w w' ad' n' s' a' l' c' rs k (B + n + 1) ∧ n' ≤ n ∧ Std (rs.map Raw.p) ∧ (∀ u, csum (rs.map Raw.p) u = csum (wo v ps) u) ∧ NW F w' ad' n' cp' a' l' c' := by
 go_enter Try.func25, Try.ntmps25
 go_wp2_with fail
 have x := ((tb_new w ad n cp s a l c).below (below_alloc _ (.cells #[.slice none 0 0, .bool false, .slice none 0 0] 27))).below (below_alloc _ (.cells #[.slice ad n cp] 22))
 have y := (tb_new (w.alloc (.cells #[.slice ad n cp, .bool s, .slice a l c] 27)) none 0 0 false none 0 0).below (below_alloc _ (.cells #[.slice ad n cp] 22))
 have z := heap_alloc_new ((w.alloc (.cells #[.slice ad n cp, .bool s, .slice a l c] 27)).alloc (.cells #[.slice none 0 0, .bool false, .slice none 0 0] 27)) (.cells #[.slice ad n cp] 22)
 have b0 : Below w.heap.size w (((w.alloc (.cells #[.slice ad n cp, .bool s, .slice a l c] 27)).alloc (.cells #[.slice none 0 0, .bool false, .slice none 0 0] 27)).alloc (.cells #[.slice ad n cp] 22)) := below_alloc' (below_alloc' (below_alloc _ _) _) _
 rw [show (w.alloc (.cells #[.slice ad n cp, .bool s, .slice a l c] 27)).heap.size = w.heap.size + 1 from by simp] at y
 rw [show ((w.alloc (.cells #[.slice ad n cp, .bool s, .slice a l c] 27)).alloc (.cells #[.slice none 0 0, .bool false, .slice none 0 0] 27)).heap.size = w.heap.size + 1 + 1 from by simp] at z
 generalize ((w.alloc (.cells #[.slice ad n cp, .bool s, .slice a l c] 27)).alloc (.cells #[.slice none 0 0, .bool false, .slice none 0 0] 27)).alloc (.cells #[.slice ad n cp] 22) = wb at *
 have hpr : w.heap.size < w.heap.size + 1 := by omega
 replace hP := hP.below b0
 replace hz := hz.below b0
 have hFb := hide (Nat.le_trans hF b0.size)
 generalize hp : w.heap.size = p at *
 replace hp := hide hp
 generalize p + 1 = r at *
 generalize r + 1 = q at *
 refine (gather1 (F := F) hFb.out z hP hB).mono ?_
 rintro e w1 ⟨m, rfl, hG, k1, hm⟩
 have x1 := x.below k1
 have y1 := y.below k1
 have hxl := x1.lt
 clear z
 have hpm : p ≠ m := by have := x.lt; omega
 go_wp2_with (at_delete; refine wpList_del_z rfl _ _ rfl m _ _ _ v rfl rfl hG hv ?_; intro w2 hG2 hg2; have x2 := x1.grown hg2 hpm; have u1 := x2.c1; have u2 := x2.c2)
 have k12 : Below wb.heap.size wb w2 := below_grown k1 hg2 hm
 have hml := hG.lt
 have y2 := y1.grown hg2 (by have := y.lt; omega)
 clear hG
 refine (stand_p (fle hFb.out k12) hG2 (hz.below k12) (by omega) (by omega) (by omega)).mono ?_
 rintro e w3 ⟨ad', n', cp', s', a', l', c', rs, rfl, hT, hn', hStd, hcs, hzR, hlR, kR, hNW⟩
 replace hNW := hide hNW
 have y' := y2.below kR
 have v0 := y'.c0
 have v1 := y'.c1
 have v2 := y'.c2
 have v3 := y'.f 0
 have v4 := y'.f 1
 have v5 := y'.f 2
 have hi1 := hP.i64
 have hTN : Hid (TN w _ ad' n' s' a' l' c' rs k (B + n + 1)) := tn_fin (hp.out.symm ▸ b0.trans (k12.mono (Nat.le_of_lt (Nat.lt_trans hpr y.lt)))) kR (hT.mono (by omega)) y2 (by have := hp.out; omega) hzR (by omega) cp'
 clear hP hz hG2 hT hg2 b0 k1 k12 kR x2 y2 x1 y1 x y u1 u2
 go_wp2
 refine bodyPost_ret (results_cell_row rfl _ _ r 27 _ (0, 0) _ rfl (tb_fin y' ad' n' cp' s' a' l' c') Try.underlying27 rfl (by kernel_rfl)) rfl ?_
 exact ⟨ad', n', cp', s', a', l', c', rs, by simp, hTN.out, hn', hStd, csum_all hTN.out.pr.i64 (fun q hq => hi1 q (List.mem_filter.1 hq).1) (fun u hu => by rw [csum_wo]; exact hcs u hu), hNW.out.tb y' (tb_set _ _ _ _ _)⟩
end Go.Proofs.Ytagjfhipjbpoiaa.Fresh

namespace Go.Proofs.Ytagjfhipjbpoiaa
open Go.RowKit Go.Sort Go.Shelf
open Tm

/-- parts laid in one by one -/
def lays (qs ps : List (Int × Int)) : List (Int × Int) := ps.foldl ins qs
theorem lays_snoc (qs ps : List (Int × Int)) (p : Int × Int) : lays qs (ps ++ [p]) = ins (lays qs ps) p := by simp [lays]
theorem csum_lays (ps : List (Int × Int)) : ∀ (qs : List (Int × Int)) (v : Int), csum (lays qs ps) v = csum qs v + csum ps v := by
 induction ps with
 | nil => intro qs v; simp [lays, csum]
 | cons p ps ih =>
  intro qs v
  have := ih (ins qs p) v
  unfold lays at this ⊢
  rw [List.foldl_cons, this, csum_ins]
  simp only [csum]
  omega
theorem rise_lays (ps : List (Int × Int)) : ∀ {qs : List (Int × Int)}, Rise qs → Rise (lays qs ps) := by
 induction ps with
 | nil => intro qs h; exact h
 | cons p ps ih => intro qs h; exact ih (rise_ins h p)
/-- without the noughts -/
def nz (qs : List (Int × Int)) : List (Int × Int) := qs.filter (fun p => p.2 ≠ 0)
theorem nz_append (qs ps : List (Int × Int)) : nz (qs ++ ps) = nz qs ++ nz ps := by simp [nz]
theorem csum_nz (qs : List (Int × Int)) (v : Int) : csum (nz qs) v = csum qs v := by
 induction qs with
 | nil => rfl
 | cons q qs ih =>
  unfold nz at ih ⊢
  by_cases h : q.2 = 0
  ·rw [List.filter_cons_of_neg (by simpa using h), ih]
   simp only [csum, h]
   split <;> omega
  ·rw [List.filter_cons_of_pos (by simpa using h)]
   simp only [csum, ih]
theorem std_nz {qs : List (Int × Int)} (h : Rise qs) : Std (nz qs) := by
 exact ⟨List.Pairwise.filter _ h, fun p hp => by simpa using (List.mem_filter.1 hp).2⟩
end Go.Proofs.Ytagjfhipjbpoiaa
