/-
 Several texts in one: Rd, Num.
-/
import Derived.WalkKit
import Derived.Deep.Draws
namespace Go.Proofs.YtgpaajolcpgeaaaGreatDoor
open Go.RowKit

theorem hide {p : Prop} (h : p) : Hid p := h
theorem unhide {p : Prop} (h : Hid p) : p := h

/-- the limb at a place; 0 behind the end -/
def lz (zs : List Int) (i : Nat) : Int := zs.getD i 0

/-- every entry is a limb -/
def Limbs (zs : List Int) : Prop := ∀ z ∈ zs, 0 ≤ z ∧ z < 4294967296

theorem lz_bd {zs : List Int} (h : Limbs zs) (i : Nat) : 0 ≤ lz zs i ∧ lz zs i < 4294967296 := by
 unfold lz
 by_cases hi : i < zs.length
 ·have e : zs.getD i 0 = zs[i] := by simp [List.getD, hi]
  rw [e]; exact h _ (List.getElem_mem hi)
 ·have e : zs.getD i 0 = 0 := by simp [List.getD, List.getElem?_eq_none (Nat.le_of_not_lt hi)]
  rw [e]; decide

theorem lz_out {zs : List Int} {i : Nat} (h : zs.length ≤ i) : lz zs i = 0 := by
 unfold lz; simp [List.getD, List.getElem?_eq_none h]

theorem lz_take (zs : List Int) (n i : Nat) : lz (zs.take n) i = if i < n then lz zs i else 0 := by
 unfold lz
 simp only [List.getD_eq_getElem?_getD, List.getElem?_take]
 split <;> simp

theorem lz_set (zs : List Int) (i j : Nat) (x : Int) (hi : i < zs.length) : lz (zs.set i x) j = if j = i then x else lz zs j := by
 unfold lz
 simp only [List.getD_eq_getElem?_getD, List.getElem?_set]
 by_cases h : i = j
 ·subst h; simp [hi]
 ·simp [h, Ne.symm h]

theorem Limbs.take {zs : List Int} (h : Limbs zs) (n : Nat) : Limbs (zs.take n) := fun z hz => h z (List.mem_of_mem_take hz)

theorem Limbs.set {zs : List Int} (h : Limbs zs) (i : Nat) {x : Int} (h0 : 0 ≤ x) (h1 : x < 4294967296) : Limbs (zs.set i x) := fun z hz => by
 rcases List.mem_or_eq_of_mem_set hz with h2 | h2
 ·exact h z h2
 ·subst h2; exact ⟨h0, h1⟩

theorem Limbs.replicate (n : Nat) : Limbs (List.replicate n 0) := fun z hz => by
 rw [List.eq_of_mem_replicate hz]; decide

/-- in world w the slice value with head 'ad', length 'len' and capacity 'cap' reads as the limbs 'zs' -/
def Rd (w : World) (ad : Option Addr) (len cap : Nat) (zs : List Int) : Prop :=
 zs.length = len ∧ len ≤ cap ∧ cap ≤ 9223372036854775807 ∧ Limbs zs ∧ ((ad = none ∧ len = 0 ∧ cap = 0) ∨ (∃ a, ad = some a ∧ (len = 0 ∨ ∃ b off, a = ⟨b, off, none⟩ ∧ b < w.heap.size ∧ ∀ i, i < len → w.cell? ⟨b, off + i, none⟩ = some (.int .u32 (lz zs i)))))

/-- the length without the noughts at the end -/
def tl (zs : List Int) : Nat → Nat
 | 0 => 0
 | n + 1 => if lz zs n = 0 then tl zs n else n + 1

theorem tl_le (zs : List Int) (n : Nat) : tl zs n ≤ n := by
 induction n with
 | zero => simp [tl]
 | succ n ih => unfold tl; split <;> omega

theorem tl_last {zs : List Int} {n : Nat} (h : 0 < tl zs n) : lz zs (tl zs n - 1) ≠ 0 := by
 induction n with
 | zero => simp [tl] at h
 | succ n ih =>
  unfold tl at h ⊢
  split
  ·rename_i h0; rw [if_pos h0] at h; exact ih h
  ·rename_i h0; simpa using h0

/-- a list without the noughts at its end -/
def trim (zs : List Int) : List Int := zs.take (tl zs zs.length)

theorem Rd.take {w : World} {ad : Option Addr} {len cap : Nat} {zs : List Int} (h : Rd w ad len cap zs) {n : Nat} (hn : n ≤ len) : Rd w ad n cap (zs.take n) := by
 obtain ⟨h1, h2, h3, h4, h5⟩ := h
 refine ⟨by rw [List.length_take]; omega, by omega, h3, h4.take n, ?_⟩
 rcases h5 with ⟨ha, hl, hc⟩ | ⟨a, ha, h5⟩
 ·exact .inl ⟨ha, by omega, hc⟩
 ·refine .inr ⟨a, ha, ?_⟩
  by_cases hn0 : n = 0
  ·exact .inl hn0
  ·rcases h5 with h5 | ⟨b, off, rfl, hb, hc⟩
   ·omega
   ·refine .inr ⟨b, off, rfl, hb, fun i hi => ?_⟩
    rw [lz_take, if_pos hi]
    exact hc i (by omega)

theorem Rd.trim {w : World} {ad : Option Addr} {len cap : Nat} {zs : List Int} (h : Rd w ad len cap zs) : Rd w ad (tl zs len) cap (trim zs) := by
 have h1 := h.1
 unfold Go.Proofs.YtgpaajolcpgeaaaGreatDoor.trim
 rw [h1]
 exact h.take (tl_le _ _)

/-- old memory reads as it did -/
theorem Rd.below {w w' : World} {ad : Option Addr} {len cap : Nat} {zs : List Int} (h : Rd w ad len cap zs) (hb : Below w.heap.size w w') : Rd w' ad len cap zs := by
 obtain ⟨h1, h2, h3, h4, h5⟩ := h
 refine ⟨h1, h2, h3, h4, ?_⟩
 rcases h5 with h5 | ⟨a, ha, h5⟩
 ·exact .inl h5
 ·refine .inr ⟨a, ha, ?_⟩
  rcases h5 with h5 | ⟨b, off, rfl, hlt, hc⟩
  ·exact .inl h5
  ·exact .inr ⟨b, off, rfl, Nat.lt_of_lt_of_le hlt hb.size, fun i hi => (hb.cell (p := ⟨b, off + i, none⟩) hlt).trans (hc i hi)⟩

/-- limbs as values -/
def U (xs : List Int) : Array Value := (xs.map (Value.int .u32)).toArray

theorem U_size (xs : List Int) : (U xs).size = xs.length := by simp [U]

theorem U_get {xs : List Int} {i : Nat} (h : i < xs.length) : (U xs)[i]? = some (.int .u32 (lz xs i)) := by
 simp [U, lz, h]

theorem U_set {xs : List Int} {i : Nat} (x : Int) : (U xs).setIfInBounds i (.int .u32 x) = U (xs.set i x) := by
 apply Array.ext'
 simp [U, List.map_set]

/-- block b holds the limbs xs, none of them frozen -/
def Row (w : World) (b : Nat) (xs : List Int) : Prop := w.heap[b]? = some (.cells (U xs) 63 (0, 0))

theorem Row.cell {w : World} {b : Nat} {xs : List Int} (h : Row w b xs) {i : Nat} (hi : i < xs.length) : w.cell? ⟨b, i, none⟩ = some (.int .u32 (lz xs i)) := by
 rw [cell_of_row w b i (U xs) 63 (0, 0) h]; exact U_get hi

theorem Row.frozen {w : World} {b : Nat} {xs : List Int} (h : Row w b xs) (i : Nat) : w.frozen? ⟨b, i, none⟩ = false :=
 frozen_of_row w b i (U xs) 63 h

theorem Row.lt {w : World} {b : Nat} {xs : List Int} (h : Row w b xs) : b < w.heap.size := by
 by_cases hb : b < w.heap.size
 ·exact hb
 ·rw [Row, Array.getElem?_eq_none (by omega)] at h; cases h

theorem Row.set {w : World} {b : Nat} {xs : List Int} (h : Row w b xs) (i : Nat) (x : Int) : Row (w.setCell ⟨b, i, none⟩ (.int .u32 x)) b (xs.set i x) := by
 have := heap_setCell_same w b i (U xs) 63 (.int .u32 x) h
 rw [U_set] at this
 exact this

theorem Row.rd {w : World} {b : Nat} {xs : List Int} (h : Row w b xs) (hl : Limbs xs) {off len cap : Nat} (hn : off + len ≤ xs.length) (hc : len ≤ cap) (hb : cap ≤ 9223372036854775807) : Rd w (some ⟨b, off, none⟩) len cap ((xs.drop off).take len) := by
 refine ⟨by simp; omega, hc, hb, fun z hz => hl z (List.mem_of_mem_drop (List.mem_of_mem_take hz)), .inr ⟨_, rfl, .inr ⟨b, off, rfl, h.lt, fun i hi => ?_⟩⟩⟩
 rw [h.cell (by omega), lz_take, if_pos hi]
 simp [lz]

/-- the block that an answer lies in -/
def blk : Option Addr → Option Nat
 | some a => some a.block
 | none => none

/-- an answer in new memory (or none): old memory is as it was; the row behind the answer is the call's own, with its spare limbs -/
def Out (w w' : World) (ad : Option Addr) (len cap : Nat) (zs : List Int) : Prop :=
 Below w.heap.size w w' ∧ ((ad = none ∧ len = 0 ∧ cap = 0 ∧ zs = []) ∨ ∃ b xs, ad = some ⟨b, 0, none⟩ ∧ w.heap.size ≤ b ∧ Row w' b xs ∧ Limbs xs ∧ xs.length = cap ∧ len ≤ cap ∧ cap ≤ 9223372036854775807 ∧ zs = xs.take len)

theorem Out.rd {w w' : World} {ad : Option Addr} {len cap : Nat} {zs : List Int} (h : Out w w' ad len cap zs) : Rd w' ad len cap zs := by
 obtain ⟨_, ⟨rfl, rfl, rfl, rfl⟩ | ⟨b, xs, rfl, hb, hr, hl, hn, hle, hm, rfl⟩⟩ := h
 ·exact ⟨rfl, Nat.le_refl _, by decide, fun _ h => (by cases h), .inl ⟨rfl, rfl, rfl⟩⟩
 ·have := hr.rd hl (off := 0) (len := len) (cap := cap) (by omega) hle hm
  simpa using this

/-- a row that the call made, cut at its end -/
theorem out_row {w w' : World} {xs : List Int} {len cap : Nat} (hb : Below w.heap.size w w') (hr : Row w' w.heap.size xs) (hl : Limbs xs) (hn : xs.length = cap) (hle : len ≤ cap) (hm : cap ≤ 9223372036854775807) :
  Out w w' (some ⟨w.heap.size, 0, none⟩) len cap (xs.take len) :=
 ⟨hb, .inr ⟨_, xs, rfl, Nat.le_refl _, hr, hl, hn, hle, hm, rfl⟩⟩

/-- an answer is there as long as its block stands -/
theorem Out.keep {w0 w w' : World} {ad : Option Addr} {len cap : Nat} {zs : List Int} (h : Out w0 w ad len cap zs) (hb : Below w0.heap.size w0 w') (hk : ∀ b, blk ad = some b → w'.heap[b]? = w.heap[b]?) : Out w0 w' ad len cap zs := by
 obtain ⟨h1, h2⟩ := h
 refine ⟨hb, ?_⟩
 rcases h2 with h2 | ⟨b, xs, rfl, h4, h5, h6⟩
 ·exact .inl h2
 ·exact .inr ⟨b, xs, rfl, h4, (hk b rfl).trans h5, h6⟩

theorem Out.lt {w0 w : World} {ad : Option Addr} {len cap : Nat} {zs : List Int} (h : Out w0 w ad len cap zs) {b : Nat} (hb : blk ad = some b) : w0.heap.size ≤ b ∧ b < w.heap.size := by
 obtain ⟨h1, ⟨rfl, _⟩ | ⟨b', xs, rfl, h4, h5, h6⟩⟩ := h
 ·cases hb
 ·cases hb; exact ⟨h4, h5.lt⟩

/-- the worlds differ at block b alone -/
structure Only (b : Nat) (w w' : World) : Prop where
 os : w'.os = w.os
 tape : w'.tape = w.tape
 output : w'.output = w.output
 size : w'.heap.size = w.heap.size
 block : ∀ k, k ≠ b → w'.heap[k]? = w.heap[k]?

theorem Only.refl (b : Nat) (w : World) : Only b w w := ⟨rfl, rfl, rfl, rfl, fun _ _ => rfl⟩
theorem Only.trans {b : Nat} {w1 w2 w3 : World} (h : Only b w1 w2) (k : Only b w2 w3) : Only b w1 w3 :=
 ⟨k.os.trans h.os, k.tape.trans h.tape, k.output.trans h.output, k.size.trans h.size, fun i hi => (k.block i hi).trans (h.block i hi)⟩
theorem Only.set (b i : Nat) (w : World) (v : Value) : Only b w (w.setCell ⟨b, i, none⟩ v) :=
 ⟨rfl, rfl, rfl, by simp [World.setCell], fun k hk => Below.heap_setCell _ _ _ _ hk⟩
theorem Only.drew (b : Nat) (w : World) : Only b w w.drew := ⟨rfl, rfl, rfl, rfl, fun _ _ => rfl⟩
theorem Only.drewN (b : Nat) (w : World) (n : Nat) : Only b w (w.drewN n) := ⟨rfl, rfl, rfl, rfl, fun _ _ => rfl⟩
theorem Only.below {b B : Nat} {w w' : World} (h : Only b w w') (hB : B ≤ b) : Below B w w' :=
 ⟨h.os, h.tape, h.output, Nat.le_of_eq h.size.symm, fun k hk => h.block k (by omega)⟩

theorem Rd.only {w w' : World} {ad : Option Addr} {len cap : Nat} {zs : List Int} {b : Nat} (h : Rd w ad len cap zs) (ho : Only b w w') (hb : ∀ x off, ad = some ⟨x, off, none⟩ → len = 0 ∨ x ≠ b) : Rd w' ad len cap zs := by
 obtain ⟨h1, h2, h3, h4, h5⟩ := h
 refine ⟨h1, h2, h3, h4, ?_⟩
 rcases h5 with h5 | ⟨a, ha, h5⟩
 ·exact .inl h5
 ·refine .inr ⟨a, ha, ?_⟩
  rcases h5 with h5 | ⟨x, off, rfl, hlt, hc⟩
  ·exact .inl h5
  ·rcases hb x off ha with h0 | h0
   ·exact .inl h0
   ·exact .inr ⟨x, off, rfl, by rw [ho.size]; exact hlt, fun i hi => (World.cell?_of_block (w := w) (ho.block x h0)).trans (hc i hi)⟩

end Go.Proofs.YtgpaajolcpgeaaaGreatDoor

namespace Go.Proofs.YtgpaajolcpgeaaaGreatDoor

/-- powers of 2^32 -/
def pw : Nat → Int
  | 0 => 1
  | n + 1 => 4294967296 * pw n

theorem pw_pos (n : Nat) : 0 < pw n := by
  induction n with
  | zero => decide
  | succ n ih => unfold pw; omega

theorem pw_succ (n : Nat) : pw (n + 1) = 4294967296 * pw n := rfl

/-- the value of the first n limbs -/
def vl (zs : List Int) : Nat → Int
  | 0 => 0
  | n + 1 => vl zs n + lz zs n * pw n

theorem vl_succ (zs : List Int) (n : Nat) : vl zs (n + 1) = vl zs n + lz zs n * pw n := rfl

/-- the value of a list of limbs -/
def val (zs : List Int) : Int := vl zs zs.length

theorem vl_bd {zs : List Int} (h : Limbs zs) (n : Nat) : 0 ≤ vl zs n ∧ vl zs n < pw n := by
  induction n with
  | zero => simp [vl, pw]
  | succ n ih =>
    have hb := lz_bd h n
    have hp := pw_pos n
    rw [vl_succ, pw_succ]
    have h1 : 0 ≤ lz zs n * pw n := Int.mul_nonneg hb.1 (by omega)
    have h2 : lz zs n * pw n ≤ 4294967295 * pw n := Int.mul_le_mul_of_nonneg_right (by omega) (by omega)
    omega

theorem vl_past (zs : List Int) (k : Nat) : vl zs (zs.length + k) = val zs := by
  induction k with
  | zero => rfl
  | succ k ih => rw [Nat.add_succ, vl_succ, ih, lz_out (by omega)]; simp

theorem vl_ge {zs : List Int} {n : Nat} (h : zs.length ≤ n) : vl zs n = val zs := by
  obtain ⟨k, rfl⟩ := Nat.exists_eq_add_of_le h
  exact vl_past zs k

theorem vl_congr {xs ys : List Int} {n : Nat} (h : ∀ i, i < n → lz xs i = lz ys i) : vl xs n = vl ys n := by
  induction n with
  | zero => rfl
  | succ n ih => rw [vl_succ, vl_succ, ih (fun i hi => h i (by omega)), h n (by omega)]

theorem vl_tl (zs : List Int) (n : Nat) : vl zs (tl zs n) = vl zs n := by
  induction n with
  | zero => rfl
  | succ n ih =>
    unfold tl
    split
    · rename_i h; rw [ih, vl_succ, h]; simp
    · rfl

theorem val_take (zs : List Int) (n : Nat) (hn : n ≤ zs.length) : val (zs.take n) = vl zs n := by
  unfold val
  have hl : (zs.take n).length = n := by rw [List.length_take]; omega
  rw [hl]
  exact vl_congr (fun i hi => by rw [lz_take, if_pos hi])

theorem val_trim (zs : List Int) : val (trim zs) = val zs := by
  unfold trim
  rw [val_take _ _ (tl_le _ _), vl_tl]
  rfl

theorem val_nonneg {zs : List Int} (h : Limbs zs) : 0 ≤ val zs := (vl_bd h _).1

theorem vl_set_past (zs : List Int) (i n : Nat) (x : Int) (h : n ≤ i) (hi : i < zs.length) : vl (zs.set i x) n = vl zs n :=
  vl_congr (fun j hj => by rw [lz_set _ _ _ _ hi, if_neg (by omega)])

/-- no nought at the end -/
def Canon (zs : List Int) : Prop := Limbs zs ∧ (0 < zs.length → lz zs (zs.length - 1) ≠ 0)

theorem trim_length (zs : List Int) : (trim zs).length = tl zs zs.length := by
  unfold trim; rw [List.length_take]; have := tl_le zs zs.length; omega

theorem canon_trim {zs : List Int} (h : Limbs zs) : Canon (trim zs) := by
  refine ⟨h.take _, fun hp => ?_⟩
  rw [trim_length] at hp ⊢
  unfold trim
  rw [lz_take, if_pos (by omega)]
  exact tl_last hp

theorem canon_nil : Canon [] := ⟨fun _ h => (by cases h), fun h => absurd h (by decide)⟩

theorem canon_low {zs : List Int} (h : Canon zs) (hp : 0 < zs.length) : pw (zs.length - 1) ≤ val zs := by
  obtain ⟨n, hn⟩ : ∃ n, zs.length = n + 1 := ⟨zs.length - 1, by omega⟩
  have hl := h.2 hp
  have hb := lz_bd h.1 (zs.length - 1)
  unfold val
  rw [hn] at hl hb ⊢
  simp only [Nat.add_sub_cancel] at hl hb ⊢
  rw [vl_succ]
  have h1 := (vl_bd h.1 n).1
  have h2 : 1 * pw n ≤ lz zs n * pw n := Int.mul_le_mul_of_nonneg_right (by omega) (Int.le_of_lt (pw_pos n))
  omega

theorem pw_mono {m n : Nat} (h : m ≤ n) : pw m ≤ pw n := by
  induction n with
  | zero => have : m = 0 := by omega
            subst this; exact Int.le_refl _
  | succ n ih =>
    by_cases e : m = n + 1
    · subst e; exact Int.le_refl _
    · have := ih (by omega); have := pw_pos n; rw [pw_succ]; omega

/-- a shorter canonical list is a lesser number -/
theorem val_lt_of_length {xs ys : List Int} (hx : Limbs xs) (hy : Canon ys) (h : xs.length < ys.length) : val xs < val ys := by
  have h1 := (vl_bd hx xs.length).2
  have h2 := canon_low hy (by omega)
  have h3 : pw xs.length ≤ pw (ys.length - 1) := pw_mono (by omega)
  unfold val at *
  omega

/-- of lists that agree from place i + 1 on the limb at i decides -/
theorem vl_lt_of_lz {xs ys : List Int} (hx : Limbs xs) (hy : Limbs ys) {i n : Nat} (hi : i < n) (hs : ∀ j, i < j → j < n → lz xs j = lz ys j) (h : lz xs i < lz ys i) : vl xs n < vl ys n := by
  induction n with
  | zero => omega
  | succ n ih =>
    rw [vl_succ, vl_succ]
    by_cases e : i = n
    · subst e
      have h1 := (vl_bd hx i).2
      have h2 := (vl_bd hy i).1
      have h3 : (lz xs i + 1) * pw i ≤ lz ys i * pw i := Int.mul_le_mul_of_nonneg_right (by omega) (Int.le_of_lt (pw_pos i))
      rw [Int.add_mul] at h3
      omega
    · have := ih (by omega) (fun j h1 h2 => hs j h1 (by omega))
      rw [hs n (by omega) (by omega)]
      omega

theorem list_ext_lz {xs ys : List Int} (hl : xs.length = ys.length) (h : ∀ i, i < xs.length → lz xs i = lz ys i) : xs = ys := by
  apply List.ext_getElem hl
  intro i h1 h2
  have := h i h1
  simpa [lz, h1, h2] using this

/-- lists of one length and one value are one -/
theorem vl_inj {xs ys : List Int} (hx : Limbs xs) (hy : Limbs ys) {n : Nat} (h : vl xs n = vl ys n) : ∀ i, i < n → lz xs i = lz ys i := by
  induction n with
  | zero => intro i hi; omega
  | succ n ih =>
    rw [vl_succ, vl_succ] at h
    have a1 := vl_bd hx n
    have a2 := vl_bd hy n
    have hp := pw_pos n
    have e : lz xs n = lz ys n := by
      have hlt : ∀ p q : Int, p < q → ∀ u v : Int, 0 ≤ v → u < pw n → u + p * pw n ≠ v + q * pw n := by
        intro p q hpq u v hv hu he
        have h3 : (p + 1) * pw n ≤ q * pw n := Int.mul_le_mul_of_nonneg_right (by omega) (by omega)
        rw [Int.add_mul] at h3
        omega
      rcases Int.lt_trichotomy (lz xs n) (lz ys n) with h1 | h1 | h1
      · exact absurd h (hlt _ _ h1 _ _ a2.1 a1.2)
      · exact h1
      · exact absurd h.symm (hlt _ _ h1 _ _ a1.1 a2.2)
    intro i hi
    by_cases e2 : i = n
    · subst e2; exact e
    · exact ih (by rw [e] at h; omega) i (by omega)

theorem canon_inj {xs ys : List Int} (hx : Canon xs) (hy : Canon ys) (h : val xs = val ys) : xs = ys := by
  have hl : xs.length = ys.length := by
    rcases Nat.lt_trichotomy xs.length ys.length with h1 | h1 | h1
    · have := val_lt_of_length hx.1 hy h1; omega
    · exact h1
    · have := val_lt_of_length hy.1 hx h1; omega
  refine list_ext_lz hl (vl_inj hx.1 hy.1 ?_)
  have : vl ys xs.length = val ys := by rw [hl]; rfl
  rw [this]; exact h

theorem canon_zero {xs : List Int} (hx : Canon xs) : val xs = 0 ↔ xs = [] := by
  constructor
  · intro h; exact canon_inj hx canon_nil (by rw [h]; rfl)
  · rintro rfl; rfl

/-- one step of a sum that runs from the least limb on -/
theorem carry_step {zs : List Int} {k : Nat} {cr s T : Int} (hk : k < zs.length) (h : vl zs k + cr * pw k = T) :
    vl (zs.set k ((cr + s) % 4294967296)) (k + 1) + ((cr + s) / 4294967296) * pw (k + 1) = T + s * pw k := by
  rw [vl_succ, vl_set_past _ _ _ _ (Nat.le_refl _) hk, lz_set _ _ _ _ hk, if_pos rfl, pw_succ]
  have e : (cr + s) % 4294967296 + 4294967296 * ((cr + s) / 4294967296) = cr + s := Int.emod_add_mul_ediv _ _
  have e2 : (cr + s) / 4294967296 * (4294967296 * pw k) = (4294967296 * ((cr + s) / 4294967296)) * pw k := by
    rw [← Int.mul_assoc, Int.mul_comm ((cr + s) / 4294967296)]
  rw [e2, Int.add_assoc, ← Int.add_mul, e, Int.add_mul]
  omega

theorem mul_bd {x y : Int} (h0 : 0 ≤ x) (h1 : x < 4294967296) (h2 : 0 ≤ y) (h3 : y < 4294967296) : 0 ≤ x * y ∧ x * y ≤ 18446744065119617025 := by
  refine ⟨Int.mul_nonneg h0 h2, ?_⟩
  have h4 : x * y ≤ 4294967295 * y := Int.mul_le_mul_of_nonneg_right (by omega) h2
  omega

theorem vl_set {zs : List Int} {m n : Nat} (x : Int) (hm : m < zs.length) (hn : m < n) : vl (zs.set m x) n = vl zs n + (x - lz zs m) * pw m := by
  induction n with
  | zero => omega
  | succ n ih =>
    rw [vl_succ, vl_succ, lz_set _ _ _ _ hm]
    by_cases e : n = m
    · subst e
      rw [if_pos rfl, vl_set_past _ _ _ _ (Nat.le_refl _) hm, Int.sub_mul]
      omega
    · rw [if_neg e, ih (by omega)]
      omega

/-- a division by a limb, one step downwards -/
theorem div_step {zs zk : List Int} {m len : Nat} {d r q r' : Int} (hm : m < len) (hl : len ≤ zk.length) (hz : lz zk m = lz zs m) (hq : r * 4294967296 + lz zs m = d * q + r')
    (h : vl zs len - vl zs (m + 1) = d * (vl zk len - vl zk (m + 1)) + r * pw (m + 1)) :
    vl zs len - vl zs m = d * (vl (zk.set m q) len - vl (zk.set m q) m) + r' * pw m := by
  rw [vl_set q (by omega) hm, vl_set_past _ _ _ _ (Nat.le_refl _) (by omega)]
  rw [vl_succ, vl_succ, pw_succ, hz] at h
  have e1 : r * (4294967296 * pw m) = (d * q + r' - lz zs m) * pw m := by rw [← Int.mul_assoc]; congr 1; omega
  rw [e1] at h
  have e2 : d * (vl zk len + (q - lz zk m) * pw m - vl zk m) = d * (vl zk len - (vl zk m + lz zs m * pw m)) + d * q * pw m := by
    rw [hz, Int.mul_assoc d q, ← Int.mul_add]
    congr 1
    rw [Int.sub_mul]; omega
  rw [e2]
  simp only [Int.add_mul, Int.sub_mul] at h
  omega

/-- -1, 0, 1 -/
def cmpI (a b : Int) : Int := if a < b then -1 else if b < a then 1 else 0

end Go.Proofs.YtgpaajolcpgeaaaGreatDoor
