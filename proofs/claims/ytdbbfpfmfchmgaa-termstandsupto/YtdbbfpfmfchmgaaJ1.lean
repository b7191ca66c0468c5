/-
  Several texts in one: T2, T3, T4, T5.
-/
import Derived.Test.YtdbbfpfmfchmgaaT1
import Derived.Test.YtdbbfpfmfchmgaaDec
import Derived.Deep.LoopGhost
namespace Go.Proofs.Ytdbbfpfmfchmgaa
open Go.RowKit

/-- bare of an answer of the call's own -/
theorem bare_out {w0 w : World} {ad : Option Addr} {n cap : Nat} {X : List Int} (h : Out w0 w ad n cap X) :
    Calls Try.prog 80 #[.slice ad n cap] w fun e w' => e = .returned (.slice ad (tl X n) cap) ∧ w = w' := bare_any h.rd

theorem Out.trimmed {w0 w : World} {ad : Option Addr} {n cap : Nat} {X : List Int} (h : Out w0 w ad n cap X) : Out w0 w ad (tl X n) cap (trim X) ∧ Canon (trim X) := by
  have hrd := h.rd
  refine ⟨?_, canon_trim hrd.2.2.2.1⟩
  have hn := hrd.1
  obtain ⟨hB, ⟨rfl, rfl, rfl, rfl⟩ | ⟨b, zs, rfl, hb, hr, hlz, hzl, hle, hm, rfl⟩⟩ := h
  · exact ⟨hB, .inl ⟨rfl, rfl, rfl, rfl⟩⟩
  · have e : tl (zs.take n) n = tl zs n := tl_congr (fun i hi => by rw [lz_take, if_pos hi])
    have hb2 := tl_le zs n
    refine ⟨hB, .inr ⟨b, zs, rfl, hb, hr, hlz, hzl, by omega, hm, ?_⟩⟩
    unfold trim
    rw [hn, e, List.take_take, Nat.min_eq_left hb2]

/-- what stands between two rows that are apart -/
theorem out_one {w0 w : World} (hB : Below w0.heap.size w0 w) (x : Int) (h0 : 0 ≤ x) (h1 : x < 4294967296) : Out w0 (w.alloc (.cells #[.int .u32 x] 65)) (some ⟨w.heap.size, 0, none⟩) 1 1 [x] :=
  ⟨hB.alloc hB.size _, .inr ⟨w.heap.size, [x], rfl, hB.size, row_alloc w [x], fun z hz => by rw [List.mem_singleton.1 hz]; exact ⟨h0, h1⟩, rfl, Nat.le_refl _, by decide, rfl⟩⟩

theorem Out.alloc {w0 w : World} {ad : Option Addr} {n cap : Nat} {X : List Int} (h : Out w0 w ad n cap X) (o : Obj) : Out w0 (w.alloc o) ad n cap X :=
  h.keep (h.1.alloc h.1.size _) (fun _ hb => Below.heap_alloc _ _ _ (h.lt hb).2)

/-- append of one limb -/
theorem run_append_one {w0 w : World} {ad : Option Addr} {n cap : Nat} {xs : List Int} (hO : Out w0 w ad n cap xs) (ty : TypeId) (x : Int) (h0 : 0 ≤ x) (h1 : x < 4294967296) (hbig : n + 1 ≤ 35184372088832) :
    ∃ v' w', (Builtin.append_ #[23, 23] ty #[.slice ad n cap, .slice (some ⟨w.heap.size, 0, none⟩) 1 1]).run Try.prog (w.alloc (.cells #[.int .u32 x] 65)) = .ok v' w' ∧
      ∃ ad' cap', v' = .slice ad' (n + 1) cap' ∧ Out w0 w' ad' (n + 1) cap' (xs ++ [x]) ∧ (∀ k, k < w.heap.size → blk ad ≠ some k → w'.heap[k]? = w.heap[k]?) ∧ w.heap.size ≤ w'.heap.size ∧ (∀ k, blk ad' = some k → blk ad = some k ∨ w.heap.size ≤ k) := by
  obtain ⟨v', w', hr, ad', cap', hv, ho, hg, hbk⟩ := run_append_out (hO.alloc (.cells #[.int .u32 x] 65)) ty ⟨w.heap.size, 0, none⟩ 1 1 [x] rfl (fun z hz => by rw [List.mem_singleton.1 hz]; exact ⟨h0, h1⟩) (fun j hj => by
    obtain rfl : j = 0 := by omega
    rw [Addr.add_lit]
    exact (row_alloc w [x]).cell (i := 0) (by simp)) hbig
  refine ⟨v', w', hr, ad', cap', hv, ho, fun k hk hne => ?_, ?_, fun k hk => ?_⟩
  · rw [hg.block k (by simp; omega) (fun e => hne e.symm)]
    exact Below.heap_alloc _ _ _ hk
  · have := hg.size; simp at this; omega
  · rcases hbk k hk with h | h
    · exact .inl h
    · exact .inr (by simp at h; omega)

/-- what holds of the rest and of the pieces at every round's head -/
def CutRel (w : World) (n0 : Int) (l1 : Nat) (gk : Nat) (l p : Value) (wr : World) : Prop :=
  ∃ adL nL capL X adP k capP ps, l = .slice adL nL capL ∧ p = .slice adP k capP ∧ Out w wr adL nL capL X ∧ Canon X ∧ Out w wr adP k capP ps ∧ (∀ b, blk adL = some b → blk adP ≠ some b) ∧ nL ≤ l1 ∧ 0 < k ∧ k ≤ 2 * l1 + 1 ∧ Pcs ps ∧ pv ps + val X * pb k = n0 ∧ (val X = 0 → 1 < k → lz ps (k - 1) ≠ 0) ∧ gk = (val X).toNat

theorem cut_bound {X ps : List Int} {k l1 : Nat} {n0 : Int} (_hc : Canon X) (hp : Pcs ps) (hv : pv ps + val X * pb k = n0) (hlt : n0 < pw l1) (hpos : 0 < val X) : k ≤ 2 * l1 := by
  have h1 := pv_nonneg hp
  have h2 : 1 * pb k ≤ val X * pb k := Int.mul_le_mul_of_nonneg_right (by omega) (Int.le_of_lt (pb_pos k))
  have h3 := pb_pw l1
  rcases Nat.lt_or_ge (2 * l1) k with h | h
  · have := pb_mono (Nat.le_of_lt h); omega
  · exact h

theorem cut_value {X ps : List Int} {k : Nat} {n0 : Int} (hk : ps.length = k) (hv : pv ps + val X * pb k = n0) : pv (ps ++ [val X % 1000000000]) + val X / 1000000000 * pb (k + 1) = n0 := by
  rw [pv_snoc, hk, ← hv]
  have e : val X % 1000000000 + 1000000000 * (val X / 1000000000) = val X := Int.emod_add_mul_ediv _ _
  have e2 : val X / 1000000000 * pb (k + 1) = 1000000000 * (val X / 1000000000) * pb k := by
    show val X / 1000000000 * (1000000000 * pb k) = _
    rw [← Int.mul_assoc, Int.mul_comm (val X / 1000000000)]
  rw [e2, Int.add_assoc, ← Int.add_mul, e]

theorem lz_snoc (ps : List Int) (x : Int) : lz (ps ++ [x]) ps.length = x := by simp [lz]

end Go.Proofs.Ytdbbfpfmfchmgaa

namespace Go.Proofs.Ytdbbfpfmfchmgaa
open Go.RowKit

theorem builder_below {T e : TypeId} {B b : Nat} {bs : List Value} {w w' : World} (h : Lib.IsBuilder T e B b bs w) (hb : Below w.heap.size w w') : Lib.IsBuilder T e B b bs w' := by
  have key : ∀ p, Lib.BuilderAt T e B b p bs w → Lib.BuilderAt T e B b p bs w' := by
    rintro p ⟨hB, v, hbk, hown, hne⟩
    have hlt : b < w.heap.size := by
      rcases Nat.lt_or_ge b w.heap.size with h' | h'
      · exact h'
      · rw [Array.getElem?_eq_none h'] at hbk; cases hbk
    exact ⟨hB, v, by rw [hb.block b hlt]; exact hbk, hown.kept (row := none) ⟨hb.os, hb.tape, hb.output, hb.size, fun k hk _ => hb.block k hk⟩ (by
      cases hq : v.ownBlock with
      | none => exact .inl rfl
      | some k => exact .inr (by simp)), hne⟩
  rcases h with h | h
  · exact .inl (key _ h)
  · exact .inr (key _ h)

theorem builder_new (T e : TypeId) (w : World) : Lib.IsBuilder T e w.heap.size w.heap.size (Lib.byteCells []) (w.alloc (.cells #[.pointer none, .slice none 0 0] T)) :=
  .inl ⟨Nat.le_refl _, .slice none 0 0, heap_alloc_new w _, World.ownsRow_nil _ _ _ _, by simp [Value.ownBlock]⟩

theorem strCells_list (l : List UInt8) : Lib.strCells ⟨l.toArray⟩ = Lib.byteCells l := by
  simp [Lib.strCells, Lib.byteCells]

theorem byteCells_append (l r : List UInt8) : Lib.byteCells l ++ Lib.byteCells r = Lib.byteCells (l ++ r) := by
  simp [Lib.byteCells]

theorem size_list (l : List UInt8) : (⟨l.toArray⟩ : ByteArray).size = l.length := by
  show l.toArray.size = _
  simp

end Go.Proofs.Ytdbbfpfmfchmgaa

namespace Go.Proofs.Ytdbbfpfmfchmgaa
open Go.RowKit

/-- the byte at a place -/
def bt (s : ByteArray) (i : Nat) : Nat := (s.data.toList.getD i 0).toNat

theorem bt_eq (s : ByteArray) (i : Nat) (h : i < s.size) : bt s i = (s[i]'h).toNat := by
  unfold bt
  have : s.data.toList.getD i 0 = s[i]'h := by
    have h2 : i < s.data.size := h
    have e : s.data.toList[i]? = some (s.data[i]'h2) := by simp
    rw [List.getD_eq_getElem?_getD, e]
    rfl
  rw [this]

/-- has some number this text? -/
def okText (s : ByteArray) : Prop := 0 < s.size ∧ ¬ (1 < s.size ∧ bt s 0 = 48) ∧ ∀ i, i < s.size → 48 ≤ bt s i ∧ bt s i ≤ 57

theorem ne_empty {s : ByteArray} (h : 0 < s.size) : s.toList.isEmpty = false := by
  rw [ByteArray.toList_eq]
  have : 0 < s.data.toList.length := by rw [Array.length_toList]; exact h
  cases hq : s.data.toList with
  | nil => rw [hq] at this; simp at this
  | cons x r => rfl

theorem is_empty {s : ByteArray} (h : s.size = 0) : s.toList.isEmpty = true := by
  rw [ByteArray.toList_eq]
  have : s.data.toList.length = 0 := by rw [Array.length_toList]; exact h
  rw [List.eq_nil_of_length_eq_zero this]; rfl

theorem bt_lt (s : ByteArray) (i : Nat) : bt s i < 256 := UInt8.toNat_lt _

end Go.Proofs.Ytdbbfpfmfchmgaa

namespace Go.Proofs.Ytdbbfpfmfchmgaa
open Go.RowKit

/-- the number of k digits from place a on -/
def dr (s : ByteArray) (a : Nat) : Nat → Nat
  | 0 => 0
  | k + 1 => dr s a k * 10 + (bt s (a + k) - 48)

theorem dr_lt (s : ByteArray) (a : Nat) (k : Nat) (h : ∀ i, i < k → bt s (a + i) ≤ 57) : dr s a k < 10 ^ k := by
  induction k with
  | zero => simp [dr]
  | succ k ih =>
    have h1 := ih (fun i hi => h i (by omega))
    have h2 := h k (by omega)
    simp only [dr, Nat.pow_succ]
    omega

theorem dr_add (s : ByteArray) (a m k : Nat) : dr s a (m + k) = dr s a m * 10 ^ k + dr s (a + m) k := by
  induction k with
  | zero => simp [dr]
  | succ k ih =>
    rw [← Nat.add_assoc]
    simp only [dr, ih, Nat.pow_succ]
    rw [Nat.add_mul, Nat.mul_assoc, Nat.add_assoc a m k]
    omega

theorem dr_congr {s t : ByteArray} {a b k : Nat} (h : ∀ i, i < k → bt s (a + i) = bt t (b + i)) : dr s a k = dr t b k := by
  induction k with
  | zero => rfl
  | succ k ih => simp only [dr, ih (fun i hi => h i (by omega)), h k (by omega)]

theorem pow_le9 {k : Nat} (h : k ≤ 8) : 10 ^ k ≤ 100000000 := by
  have : 10 ^ k ≤ 10 ^ 8 := Nat.pow_le_pow_right (by decide) h
  simpa using this

theorem bt_extract (s : ByteArray) (a b i : Nat) (hb : b ≤ s.size) (hi : a + i < b) : bt (s.extract a b) i = bt s (a + i) := by
  unfold bt
  have e : (s.extract a b).data = s.data.extract a b := by simp [ByteArray.data_extract]
  rw [e]
  have h2 : b ≤ s.data.size := hb
  have e2 : (s.data.extract a b).toList.getD i 0 = s.data.toList.getD (a + i) 0 := by
    simp only [List.getD_eq_getElem?_getD, Array.toList_extract, List.extract_eq_take_drop, List.getElem?_take, List.getElem?_drop]
    rw [if_pos (by omega)]
  rw [e2]

theorem val_snoc (Y : List Int) (cr : Int) : val (Y ++ [cr]) = val Y + cr * pw Y.length := by
  unfold val
  rw [List.length_append, List.length_singleton, vl_succ]
  have e1 : vl (Y ++ [cr]) Y.length = vl Y Y.length := vl_congr (fun i hi => by simp [lz, List.getD, List.getElem?_append_left hi])
  rw [e1, lz_snoc]

theorem dr_first (s : ByteArray) (m c : Nat) (h : m = 0 ∨ c = 9) : dr s 0 (m + c) = dr s 0 m * 1000000000 + dr s m c := by
  rw [dr_add, Nat.zero_add]
  rcases h with rfl | rfl
  · simp [dr]
  · rfl

theorem dr_pw (s : ByteArray) (k : Nat) (h : ∀ i, i < k → bt s (0 + i) ≤ 57) : (dr s 0 k : Int) < pw k := by
  have h1 := dr_lt s 0 k h
  have h2 : ((10 ^ k : Nat) : Int) ≤ pw k := by
    clear h h1
    induction k with
    | zero => decide
    | succ k ih => rw [Nat.pow_succ, pw_succ]; omega
  omega

theorem canon_len {zs : List Int} (h : Canon zs) {k : Nat} (hv : val zs < pw k) : zs.length ≤ k := by
  rcases Nat.lt_or_ge k zs.length with h1 | h1
  · have h2 := canon_low h (by omega)
    have h3 : pw k ≤ pw (zs.length - 1) := pw_mono (by omega)
    omega
  · exact h1

end Go.Proofs.Ytdbbfpfmfchmgaa
