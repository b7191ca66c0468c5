/-
 What a slice of limbs reads as in a world: the predicate 'Rd', over any world, with what keeps it; rows of limbs that a call has made.
-/
import Derived.WalkKit
import Derived.Deep.Draws
namespace Go.Proofs.YtjhhknfnaobmiaaGreatDoor
open Go.RowKit

theorem hide {p : Prop} (h : p) : Hid p := h
theorem unhide {p : Prop} (h : Hid p) : p := h

/-- the limb at a place; 0 behind the end -/
def lz (zs : List Int) (i : Nat) : Int := zs.getD i 0

/-- every entry is a limb -/
def Limbs (zs : List Int) : Prop := ∀ z ∈ zs, 0 ≤ z ∧ z < 4294967296

theorem lz_bd {zs : List Int} (h : Limbs zs) (i : Nat) : 0 ≤ lz zs i ∧ lz zs i < 4294967296 := by
 unfold lz
 by_cases hi : i < zs.length
 ·have e : zs.getD i 0 = zs[i] := by simp [List.getD, hi]
  rw [e]; exact h _ (List.getElem_mem hi)
 ·have e : zs.getD i 0 = 0 := by simp [List.getD, List.getElem?_eq_none (Nat.le_of_not_lt hi)]
  rw [e]; decide

theorem lz_out {zs : List Int} {i : Nat} (h : zs.length ≤ i) : lz zs i = 0 := by
 unfold lz; simp [List.getD, List.getElem?_eq_none h]

theorem lz_take (zs : List Int) (n i : Nat) : lz (zs.take n) i = if i < n then lz zs i else 0 := by
 unfold lz
 simp only [List.getD_eq_getElem?_getD, List.getElem?_take]
 split <;> simp

theorem lz_set (zs : List Int) (i j : Nat) (x : Int) (hi : i < zs.length) : lz (zs.set i x) j = if j = i then x else lz zs j := by
 unfold lz
 simp only [List.getD_eq_getElem?_getD, List.getElem?_set]
 by_cases h : i = j
 ·subst h; simp [hi]
 ·simp [h, Ne.symm h]

theorem Limbs.take {zs : List Int} (h : Limbs zs) (n : Nat) : Limbs (zs.take n) := fun z hz => h z (List.mem_of_mem_take hz)

theorem Limbs.set {zs : List Int} (h : Limbs zs) (i : Nat) {x : Int} (h0 : 0 ≤ x) (h1 : x < 4294967296) : Limbs (zs.set i x) := fun z hz => by
 rcases List.mem_or_eq_of_mem_set hz with h2 | h2
 ·exact h z h2
 ·subst h2; exact ⟨h0, h1⟩

theorem Limbs.replicate (n : Nat) : Limbs (List.replicate n 0) := fun z hz => by
 rw [List.eq_of_mem_replicate hz]; decide

/-- in world w the slice value with head 'ad', length 'len' and capacity 'cap' reads as the limbs 'zs' -/
def Rd (w : World) (ad : Option Addr) (len cap : Nat) (zs : List Int) : Prop :=
 zs.length = len ∧ len ≤ cap ∧ cap ≤ 9223372036854775807 ∧ Limbs zs ∧ ((ad = none ∧ len = 0 ∧ cap = 0) ∨ (∃ a, ad = some a ∧ (len = 0 ∨ ∃ b off, a = ⟨b, off, none⟩ ∧ b < w.heap.size ∧ ∀ i, i < len → w.cell? ⟨b, off + i, none⟩ = some (.int .u32 (lz zs i)))))

/-- the length without the noughts at the end -/
def tl (zs : List Int) : Nat → Nat
 | 0 => 0
 | n + 1 => if lz zs n = 0 then tl zs n else n + 1

theorem tl_le (zs : List Int) (n : Nat) : tl zs n ≤ n := by
 induction n with
 | zero => simp [tl]
 | succ n ih => unfold tl; split <;> omega

theorem tl_last {zs : List Int} {n : Nat} (h : 0 < tl zs n) : lz zs (tl zs n - 1) ≠ 0 := by
 induction n with
 | zero => simp [tl] at h
 | succ n ih =>
  unfold tl at h ⊢
  split
  ·rename_i h0; rw [if_pos h0] at h; exact ih h
  ·rename_i h0; simpa using h0

/-- a list without the noughts at its end -/
def trim (zs : List Int) : List Int := zs.take (tl zs zs.length)

theorem Rd.take {w : World} {ad : Option Addr} {len cap : Nat} {zs : List Int} (h : Rd w ad len cap zs) {n : Nat} (hn : n ≤ len) : Rd w ad n cap (zs.take n) := by
 obtain ⟨h1, h2, h3, h4, h5⟩ := h
 refine ⟨by rw [List.length_take]; omega, by omega, h3, h4.take n, ?_⟩
 rcases h5 with ⟨ha, hl, hc⟩ | ⟨a, ha, h5⟩
 ·exact .inl ⟨ha, by omega, hc⟩
 ·refine .inr ⟨a, ha, ?_⟩
  by_cases hn0 : n = 0
  ·exact .inl hn0
  ·rcases h5 with h5 | ⟨b, off, rfl, hb, hc⟩
   ·omega
   ·refine .inr ⟨b, off, rfl, hb, fun i hi => ?_⟩
    rw [lz_take, if_pos hi]
    exact hc i (by omega)

theorem Rd.trim {w : World} {ad : Option Addr} {len cap : Nat} {zs : List Int} (h : Rd w ad len cap zs) : Rd w ad (tl zs len) cap (trim zs) := by
 have h1 := h.1
 unfold Go.Proofs.YtjhhknfnaobmiaaGreatDoor.trim
 rw [h1]
 exact h.take (tl_le _ _)

/-- old memory reads as it did -/
theorem Rd.below {w w' : World} {ad : Option Addr} {len cap : Nat} {zs : List Int} (h : Rd w ad len cap zs) (hb : Below w.heap.size w w') : Rd w' ad len cap zs := by
 obtain ⟨h1, h2, h3, h4, h5⟩ := h
 refine ⟨h1, h2, h3, h4, ?_⟩
 rcases h5 with h5 | ⟨a, ha, h5⟩
 ·exact .inl h5
 ·refine .inr ⟨a, ha, ?_⟩
  rcases h5 with h5 | ⟨b, off, rfl, hlt, hc⟩
  ·exact .inl h5
  ·exact .inr ⟨b, off, rfl, Nat.lt_of_lt_of_le hlt hb.size, fun i hi => (hb.cell (p := ⟨b, off + i, none⟩) hlt).trans (hc i hi)⟩

/-- limbs as values -/
def U (xs : List Int) : Array Value := (xs.map (Value.int .u32)).toArray

theorem U_size (xs : List Int) : (U xs).size = xs.length := by simp [U]

theorem U_get {xs : List Int} {i : Nat} (h : i < xs.length) : (U xs)[i]? = some (.int .u32 (lz xs i)) := by
 simp [U, lz, h]

theorem U_set {xs : List Int} {i : Nat} (x : Int) : (U xs).setIfInBounds i (.int .u32 x) = U (xs.set i x) := by
 apply Array.ext'
 simp [U, List.map_set]

/-- block b holds the limbs xs, none of them frozen -/
def Row (w : World) (b : Nat) (xs : List Int) : Prop := w.heap[b]? = some (.cells (U xs) 73 (0, 0))

theorem Row.cell {w : World} {b : Nat} {xs : List Int} (h : Row w b xs) {i : Nat} (hi : i < xs.length) : w.cell? ⟨b, i, none⟩ = some (.int .u32 (lz xs i)) := by
 rw [cell_of_row w b i (U xs) 73 (0, 0) h]; exact U_get hi

theorem Row.frozen {w : World} {b : Nat} {xs : List Int} (h : Row w b xs) (i : Nat) : w.frozen? ⟨b, i, none⟩ = false :=
 frozen_of_row w b i (U xs) 73 h

theorem Row.lt {w : World} {b : Nat} {xs : List Int} (h : Row w b xs) : b < w.heap.size := by
 by_cases hb : b < w.heap.size
 ·exact hb
 ·rw [Row, Array.getElem?_eq_none (by omega)] at h; cases h

theorem Row.set {w : World} {b : Nat} {xs : List Int} (h : Row w b xs) (i : Nat) (x : Int) : Row (w.setCell ⟨b, i, none⟩ (.int .u32 x)) b (xs.set i x) := by
 have := heap_setCell_same w b i (U xs) 73 (.int .u32 x) h
 rw [U_set] at this
 exact this

theorem Row.rd {w : World} {b : Nat} {xs : List Int} (h : Row w b xs) (hl : Limbs xs) {off len cap : Nat} (hn : off + len ≤ xs.length) (hc : len ≤ cap) (hb : cap ≤ 9223372036854775807) : Rd w (some ⟨b, off, none⟩) len cap ((xs.drop off).take len) := by
 refine ⟨by simp; omega, hc, hb, fun z hz => hl z (List.mem_of_mem_drop (List.mem_of_mem_take hz)), .inr ⟨_, rfl, .inr ⟨b, off, rfl, h.lt, fun i hi => ?_⟩⟩⟩
 rw [h.cell (by omega), lz_take, if_pos hi]
 simp [lz]

/-- the block that an answer lies in -/
def blk : Option Addr → Option Nat
 | some a => some a.block
 | none => none

/-- an answer in new memory (or none): old memory is as it was; the row behind the answer is the call's own, with its spare limbs -/
def Out (w w' : World) (ad : Option Addr) (len cap : Nat) (zs : List Int) : Prop :=
 Below w.heap.size w w' ∧ ((ad = none ∧ len = 0 ∧ cap = 0 ∧ zs = []) ∨ ∃ b xs, ad = some ⟨b, 0, none⟩ ∧ w.heap.size ≤ b ∧ Row w' b xs ∧ Limbs xs ∧ xs.length = cap ∧ len ≤ cap ∧ cap ≤ 9223372036854775807 ∧ zs = xs.take len)

theorem Out.rd {w w' : World} {ad : Option Addr} {len cap : Nat} {zs : List Int} (h : Out w w' ad len cap zs) : Rd w' ad len cap zs := by
 obtain ⟨_, ⟨rfl, rfl, rfl, rfl⟩ | ⟨b, xs, rfl, hb, hr, hl, hn, hle, hm, rfl⟩⟩ := h
 ·exact ⟨rfl, Nat.le_refl _, by decide, fun _ h => (by cases h), .inl ⟨rfl, rfl, rfl⟩⟩
 ·have := hr.rd hl (off := 0) (len := len) (cap := cap) (by omega) hle hm
  simpa using this

/-- a row that the call made, cut at its end -/
theorem out_row {w w' : World} {xs : List Int} {len cap : Nat} (hb : Below w.heap.size w w') (hr : Row w' w.heap.size xs) (hl : Limbs xs) (hn : xs.length = cap) (hle : len ≤ cap) (hm : cap ≤ 9223372036854775807) :
  Out w w' (some ⟨w.heap.size, 0, none⟩) len cap (xs.take len) :=
 ⟨hb, .inr ⟨_, xs, rfl, Nat.le_refl _, hr, hl, hn, hle, hm, rfl⟩⟩

/-- an answer is there as long as its block stands -/
theorem Out.keep {w0 w w' : World} {ad : Option Addr} {len cap : Nat} {zs : List Int} (h : Out w0 w ad len cap zs) (hb : Below w0.heap.size w0 w') (hk : ∀ b, blk ad = some b → w'.heap[b]? = w.heap[b]?) : Out w0 w' ad len cap zs := by
 obtain ⟨h1, h2⟩ := h
 refine ⟨hb, ?_⟩
 rcases h2 with h2 | ⟨b, xs, rfl, h4, h5, h6⟩
 ·exact .inl h2
 ·exact .inr ⟨b, xs, rfl, h4, (hk b rfl).trans h5, h6⟩

theorem Out.lt {w0 w : World} {ad : Option Addr} {len cap : Nat} {zs : List Int} (h : Out w0 w ad len cap zs) {b : Nat} (hb : blk ad = some b) : w0.heap.size ≤ b ∧ b < w.heap.size := by
 obtain ⟨h1, ⟨rfl, _⟩ | ⟨b', xs, rfl, h4, h5, h6⟩⟩ := h
 ·cases hb
 ·cases hb; exact ⟨h4, h5.lt⟩

/-- the worlds differ at block b alone -/
structure Only (b : Nat) (w w' : World) : Prop where
 os : w'.os = w.os
 tape : w'.tape = w.tape
 output : w'.output = w.output
 size : w'.heap.size = w.heap.size
 block : ∀ k, k ≠ b → w'.heap[k]? = w.heap[k]?

theorem Only.refl (b : Nat) (w : World) : Only b w w := ⟨rfl, rfl, rfl, rfl, fun _ _ => rfl⟩
theorem Only.trans {b : Nat} {w1 w2 w3 : World} (h : Only b w1 w2) (k : Only b w2 w3) : Only b w1 w3 :=
 ⟨k.os.trans h.os, k.tape.trans h.tape, k.output.trans h.output, k.size.trans h.size, fun i hi => (k.block i hi).trans (h.block i hi)⟩
theorem Only.set (b i : Nat) (w : World) (v : Value) : Only b w (w.setCell ⟨b, i, none⟩ v) :=
 ⟨rfl, rfl, rfl, by simp [World.setCell], fun k hk => Below.heap_setCell _ _ _ _ hk⟩
theorem Only.drew (b : Nat) (w : World) : Only b w w.drew := ⟨rfl, rfl, rfl, rfl, fun _ _ => rfl⟩
theorem Only.below {b B : Nat} {w w' : World} (h : Only b w w') (hB : B ≤ b) : Below B w w' :=
 ⟨h.os, h.tape, h.output, Nat.le_of_eq h.size.symm, fun k hk => h.block k (by omega)⟩

theorem Rd.only {w w' : World} {ad : Option Addr} {len cap : Nat} {zs : List Int} {b : Nat} (h : Rd w ad len cap zs) (ho : Only b w w') (hb : ∀ x off, ad = some ⟨x, off, none⟩ → len = 0 ∨ x ≠ b) : Rd w' ad len cap zs := by
 obtain ⟨h1, h2, h3, h4, h5⟩ := h
 refine ⟨h1, h2, h3, h4, ?_⟩
 rcases h5 with h5 | ⟨a, ha, h5⟩
 ·exact .inl h5
 ·refine .inr ⟨a, ha, ?_⟩
  rcases h5 with h5 | ⟨x, off, rfl, hlt, hc⟩
  ·exact .inl h5
  ·rcases hb x off ha with h0 | h0
   ·exact .inl h0
   ·exact .inr ⟨x, off, rfl, by rw [ho.size]; exact hlt, fun i hi => (World.cell?_of_block (w := w) (ho.block x h0)).trans (hc i hi)⟩

end Go.Proofs.YtjhhknfnaobmiaaGreatDoor
