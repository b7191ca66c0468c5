/-
 Several texts in one: N1, Bt.
-/
import Derived.Test.YtndhjoofbkgkiaaDoorP06
import Derived.Test.YtndhjoofbkgkiaaDoorP01
namespace Go.Proofs.YtndhjoofbkgkiaaDoor
open Go.RowKit

/-- the number of a list of digits -/
def vf : List UInt8 → Nat
 | [] => 0
 | c :: l => (c.toNat - 48) * 10 ^ l.length + vf l

/-- digits alone -/
def Dig (l : List UInt8) : Prop := ∀ c ∈ l, 48 ≤ c.toNat ∧ c.toNat ≤ 57

theorem vf_snoc (l : List UInt8) (c : UInt8) : vf (l ++ [c]) = vf l * 10 + (c.toNat - 48) := by
 induction l with
 | nil => simp [vf]
 | cons x l ih =>
  simp only [List.cons_append, vf, ih, List.length_append, List.length_singleton, Nat.pow_succ]
  rw [Nat.add_mul, Nat.mul_assoc]
  omega

theorem bt_list (l : List UInt8) (i : Nat) : bt ⟨l.toArray⟩ i = (l.getD i 0).toNat := by
 unfold bt
 simp

theorem dr_vf (l : List UInt8) : dr ⟨l.toArray⟩ 0 l.length = vf l := by
 have key : ∀ (m k : Nat) (p r : List UInt8), l = p ++ r → p.length = m → r.length = k → dr ⟨l.toArray⟩ m k = vf r := by
  intro m k
  induction k generalizing m with
  | zero => intro p r _ _ hr; rw [List.eq_nil_of_length_eq_zero hr]; rfl
  | succ k ih =>
   intro p r hl hp hr
   cases r with
   | nil => simp at hr
   | cons c r =>
    have hr' : r.length = k := by simpa using hr
    have h1 := ih (m + 1) (p ++ [c]) r (by rw [hl]; simp) (by simp [hp]) hr'
    rw [show k + 1 = 1 + k from by omega, dr_add, h1]
    simp only [dr, vf, Nat.zero_mul, Nat.zero_add, Nat.add_zero, hr']
    rw [bt_list]
    have : l.getD m 0 = c := by rw [hl, ← hp]; simp [List.getD]
    rw [this]
 exact key 0 l.length [] l rfl rfl rfl

theorem dec_facts (n : Nat) : Dig (Lib.decDigits n) ∧ vf (Lib.decDigits n) = n ∧ 0 < (Lib.decDigits n).length ∧ (0 < n → 10 ^ ((Lib.decDigits n).length - 1) ≤ n ∧ ((Lib.decDigits n).getD 0 0).toNat ≠ 48) := by
 induction n using Nat.strongRecOn with
 | _ n ih =>
  have hc : ∀ d : Nat, d < 10 → (UInt8.ofNat (48 + d)).toNat = 48 + d := fun d hd => by
   rw [UInt8.toNat_ofNat']; omega
  by_cases h : n < 10
  ·rw [dec_small n h]
   have h1 := hc n h
   refine ⟨fun c hcm => ?_, ?_, by simp, fun hp => ⟨by simp; omega, ?_⟩⟩
   ·rw [List.mem_singleton.1 hcm, h1]; omega
   ·simp only [vf, h1, List.length_nil, Nat.pow_zero]; omega
   ·simp only [List.getD_cons_zero, h1]; omega
  ·obtain ⟨i1, i2, i3, i4⟩ := ih (n / 10) (by omega)
   obtain ⟨i5, i6⟩ := i4 (by omega)
   have h1 := hc (n % 10) (by omega)
   rw [dec_step n h]
   refine ⟨fun c hcm => ?_, ?_, by simp, fun hp => ⟨?_, ?_⟩⟩
   ·rcases List.mem_append.1 hcm with hm | hm
    ·exact i1 c hm
    ·rw [List.mem_singleton.1 hm, h1]; omega
   ·rw [vf_snoc, i2, h1]; omega
   ·rw [List.length_append, List.length_singleton, Nat.add_sub_cancel]
    obtain ⟨k, hk⟩ : ∃ k, (Lib.decDigits (n / 10)).length = k + 1 := ⟨_, (Nat.succ_pred_eq_of_pos i3).symm⟩
    rw [hk] at i5 ⊢
    rw [Nat.add_sub_cancel] at i5
    rw [Nat.pow_succ]
    omega
   ·cases hq : Lib.decDigits (n / 10) with
    | nil => rw [hq] at i3; simp at i3
    | cons x r => rw [hq] at i6; simpa using i6

theorem size_list' (l : List UInt8) : (⟨l.toArray⟩ : ByteArray).size = l.length := by
 show l.toArray.size = _
 simp

theorem dec_ok (n : Nat) : okText ⟨(Lib.decDigits n).toArray⟩ := by
 obtain ⟨h1, h2, h3, h4⟩ := dec_facts n
 refine ⟨by rw [size_list']; exact h3, fun h => ?_, fun i hi => ?_⟩
 ·rw [size_list', bt_list] at h
  have hp : 0 < n := by
   rcases Nat.eq_zero_or_pos n with h0 | h0
   ·subst h0; rw [dec_small 0 (by decide)] at h; simp at h
   ·exact h0
  exact (h4 hp).2 h.2
 ·rw [size_list'] at hi
  rw [bt_list]
  have e : (Lib.decDigits n).getD i 0 = (Lib.decDigits n)[i] := by simp [List.getD, hi]
  rw [e]
  exact h1 _ (List.getElem_mem hi)

theorem dec_dr (n : Nat) : dr ⟨(Lib.decDigits n).toArray⟩ 0 (⟨(Lib.decDigits n).toArray⟩ : ByteArray).size = n := by
 rw [size_list', dr_vf]
 exact (dec_facts n).2.1

end Go.Proofs.YtndhjoofbkgkiaaDoor

namespace Go.Proofs.YtndhjoofbkgkiaaDoor.Bt
open Go.RowKit

/-- every entry is a limb -/
def Limbs (zs : List Int) : Prop := ∀ z ∈ zs, 0 ≤ z ∧ z < 256

theorem lz_bd {zs : List Int} (h : Limbs zs) (i : Nat) : 0 ≤ lz zs i ∧ lz zs i < 256 := by
 unfold lz
 by_cases hi : i < zs.length
 ·have e : zs.getD i 0 = zs[i] := by simp [List.getD, hi]
  rw [e]; exact h _ (List.getElem_mem hi)
 ·have e : zs.getD i 0 = 0 := by simp [List.getD, List.getElem?_eq_none (Nat.le_of_not_lt hi)]
  rw [e]; decide

theorem Limbs.take {zs : List Int} (h : Limbs zs) (n : Nat) : Limbs (zs.take n) := fun z hz => h z (List.mem_of_mem_take hz)

theorem Limbs.set {zs : List Int} (h : Limbs zs) (i : Nat) {x : Int} (h0 : 0 ≤ x) (h1 : x < 256) : Limbs (zs.set i x) := fun z hz => by
 rcases List.mem_or_eq_of_mem_set hz with h2 | h2
 ·exact h z h2
 ·subst h2; exact ⟨h0, h1⟩

theorem Limbs.replicate (n : Nat) : Limbs (List.replicate n 0) := fun z hz => by
 rw [List.eq_of_mem_replicate hz]; decide

/-- in world w the slice value with head 'ad', length 'len' and capacity 'cap' reads as the limbs 'zs' -/
def Rd (w : World) (ad : Option Addr) (len cap : Nat) (zs : List Int) : Prop :=
 zs.length = len ∧ len ≤ cap ∧ cap ≤ 9223372036854775807 ∧ Limbs zs ∧ ((ad = none ∧ len = 0 ∧ cap = 0) ∨ (∃ a, ad = some a ∧ (len = 0 ∨ ∃ b off, a = ⟨b, off, none⟩ ∧ b < w.heap.size ∧ ∀ i, i < len → w.cell? ⟨b, off + i, none⟩ = some (.int .u8 (lz zs i)))))

/-- limbs as values -/
def U (xs : List Int) : Array Value := (xs.map (Value.int .u8)).toArray

theorem U_size (xs : List Int) : (U xs).size = xs.length := by simp [U]

theorem U_get {xs : List Int} {i : Nat} (h : i < xs.length) : (U xs)[i]? = some (.int .u8 (lz xs i)) := by
 simp [U, lz, h]

theorem U_set {xs : List Int} {i : Nat} (x : Int) : (U xs).setIfInBounds i (.int .u8 x) = U (xs.set i x) := by
 apply Array.ext'
 simp [U, List.map_set]

/-- block b holds the limbs xs, none of them frozen -/
def Row (w : World) (b : Nat) (xs : List Int) : Prop := w.heap[b]? = some (.cells (U xs) 5 (0, 0))

theorem Row.cell {w : World} {b : Nat} {xs : List Int} (h : Row w b xs) {i : Nat} (hi : i < xs.length) : w.cell? ⟨b, i, none⟩ = some (.int .u8 (lz xs i)) := by
 rw [cell_of_row w b i (U xs) 5 (0, 0) h]; exact U_get hi

theorem Row.frozen {w : World} {b : Nat} {xs : List Int} (h : Row w b xs) (i : Nat) : w.frozen? ⟨b, i, none⟩ = false :=
 frozen_of_row w b i (U xs) 5 h

theorem Row.lt {w : World} {b : Nat} {xs : List Int} (h : Row w b xs) : b < w.heap.size := by
 by_cases hb : b < w.heap.size
 ·exact hb
 ·rw [Row, Array.getElem?_eq_none (by omega)] at h; cases h

theorem Row.set {w : World} {b : Nat} {xs : List Int} (h : Row w b xs) (i : Nat) (x : Int) : Row (w.setCell ⟨b, i, none⟩ (.int .u8 x)) b (xs.set i x) := by
 have := heap_setCell_same w b i (U xs) 5 (.int .u8 x) h
 rw [U_set] at this
 exact this

theorem Row.rd {w : World} {b : Nat} {xs : List Int} (h : Row w b xs) (hl : Limbs xs) {off len cap : Nat} (hn : off + len ≤ xs.length) (hc : len ≤ cap) (hb : cap ≤ 9223372036854775807) : Rd w (some ⟨b, off, none⟩) len cap ((xs.drop off).take len) := by
 refine ⟨by simp; omega, hc, hb, fun z hz => hl z (List.mem_of_mem_drop (List.mem_of_mem_take hz)), .inr ⟨_, rfl, .inr ⟨b, off, rfl, h.lt, fun i hi => ?_⟩⟩⟩
 rw [h.cell (by omega), lz_take, if_pos hi]
 simp [lz]

/-- an answer in new memory (or none): old memory is as it was; the row behind the answer is the call's own, with its spare limbs -/
def Out (w w' : World) (ad : Option Addr) (len cap : Nat) (zs : List Int) : Prop :=
 Below w.heap.size w w' ∧ ((ad = none ∧ len = 0 ∧ cap = 0 ∧ zs = []) ∨ ∃ b xs, ad = some ⟨b, 0, none⟩ ∧ w.heap.size ≤ b ∧ Row w' b xs ∧ Limbs xs ∧ xs.length = cap ∧ len ≤ cap ∧ cap ≤ 9223372036854775807 ∧ zs = xs.take len)

theorem Out.rd {w w' : World} {ad : Option Addr} {len cap : Nat} {zs : List Int} (h : Out w w' ad len cap zs) : Rd w' ad len cap zs := by
 obtain ⟨_, ⟨rfl, rfl, rfl, rfl⟩ | ⟨b, xs, rfl, hb, hr, hl, hn, hle, hm, rfl⟩⟩ := h
 ·exact ⟨rfl, Nat.le_refl _, by decide, fun _ h => (by cases h), .inl ⟨rfl, rfl, rfl⟩⟩
 ·have := hr.rd hl (off := 0) (len := len) (cap := cap) (by omega) hle hm
  simpa using this

/-- an answer is there as long as its block stands -/
theorem Out.keep {w0 w w' : World} {ad : Option Addr} {len cap : Nat} {zs : List Int} (h : Out w0 w ad len cap zs) (hb : Below w0.heap.size w0 w') (hk : ∀ b, blk ad = some b → w'.heap[b]? = w.heap[b]?) : Out w0 w' ad len cap zs := by
 obtain ⟨h1, h2⟩ := h
 refine ⟨hb, ?_⟩
 rcases h2 with h2 | ⟨b, xs, rfl, h4, h5, h6⟩
 ·exact .inl h2
 ·exact .inr ⟨b, xs, rfl, h4, (hk b rfl).trans h5, h6⟩

theorem Out.lt {w0 w : World} {ad : Option Addr} {len cap : Nat} {zs : List Int} (h : Out w0 w ad len cap zs) {b : Nat} (hb : blk ad = some b) : w0.heap.size ≤ b ∧ b < w.heap.size := by
 obtain ⟨h1, ⟨rfl, _⟩ | ⟨b', xs, rfl, h4, h5, h6⟩⟩ := h
 ·cases hb
 ·cases hb; exact ⟨h4, h5.lt⟩

theorem zeroCells_eq (n : Nat) : Builtin.zeroCells (Value.int .u8 0).cells n = U (List.replicate n 0) := by
 apply Array.ext'
 apply List.ext_getElem?
 intro j
 by_cases hj : j < n
 ·simp [Builtin.zeroCells, Value.cells, U, hj, Nat.mod_one]
 ·simp [Builtin.zeroCells, Value.cells, U, hj]

theorem U_append (xs ys : List Int) : U xs ++ U ys = U (xs ++ ys) := by simp [U]

theorem row_drew_alloc (w : World) (xs : List Int) : Row (w.drew.alloc (.cells (U xs) 5)) w.heap.size xs := heap_alloc_new w.drew _

theorem Limbs.append {xs ys : List Int} (h : Limbs xs) (k : Limbs ys) : Limbs (xs ++ ys) := fun z hz => (List.mem_append.1 hz).elim (h z) (k z)
theorem Limbs.drop {zs : List Int} (h : Limbs zs) (n : Nat) : Limbs (zs.drop n) := fun z hz => h z (List.mem_of_mem_drop hz)

theorem lz_map {xs : List Int} {j : Nat} {v : Value} (h : (xs.map (Value.int .u8))[j]? = some v) : j < xs.length ∧ v = .int .u8 (lz xs j) := by
 rw [List.getElem?_map] at h
 cases hq : xs[j]? with
 | none => rw [hq] at h; cases h
 | some y =>
  rw [hq] at h
  simp only [Option.map_some, Option.some.injEq] at h
  refine ⟨(List.getElem?_eq_some_iff.1 hq).1, ?_⟩
  rw [← h]
  simp [lz, List.getD, hq]

theorem info49a : (Tryd.prog.info? 5).map (fun i => (i.zero, i.size, i.bytes)) = some (some (.int .u8 0), 1, 1) := by kernel_rfl

theorem run_append_out {w0 w : World} {ad : Option Addr} {n cap : Nat} {xs : List Int} (hO : Out w0 w ad n cap xs) (ty : TypeId) (a : Addr) (m c : Nat) (news : List Int) (hl : news.length = m) (hL : Limbs news)
  (hnews : ∀ j, j < m → w.cell? (a.add j) = some (.int .u8 (lz news j))) (hbig : n + m ≤ 35184372088832) :
  ∃ v' w', (Builtin.append_ #[78, 78] ty #[.slice ad n cap, .slice (some a) m c]).run Tryd.prog w = .ok v' w' ∧ ∃ ad' cap', v' = .slice ad' (n + m) cap' ∧ Out w0 w' ad' (n + m) cap' (xs ++ news) ∧ w.grownBy w' (blk ad) ∧ (∀ k, blk ad' = some k → blk ad = some k ∨ w.heap.size ≤ k) := by
 obtain ⟨i0, hi, hz0, hz1, hz2⟩ := info_parts info49a
 have hnv : ∀ j v, (news.map (Value.int .u8))[j]? = some v → w.cell? (a.add j) = some v := fun j v hv => by
  obtain ⟨h1, rfl⟩ := lz_map hv
  exact hnews j (by omega)
 have hone : ∀ u ∈ news.map (Value.int .u8), u.oneCell' = true := fun u hu => by
  obtain ⟨z, _, rfl⟩ := List.mem_map.1 hu; rfl
 obtain ⟨hB, ⟨rfl, rfl, rfl, rfl⟩ | ⟨b, zs, rfl, hb, hr, hlz, hzl, hle, hm, rfl⟩⟩ := hO
 ·by_cases h0 : m = 0
  ·subst h0
   obtain rfl : news = [] := List.eq_nil_of_length_eq_zero hl
   refine ⟨.slice none 0 0, w, ?_, none, 0, rfl, ⟨hB, .inl ⟨rfl, rfl, rfl, rfl⟩⟩, ⟨rfl, rfl, rfl, Nat.le_refl _, fun _ _ _ => rfl⟩, fun k h => .inl h⟩
   simp [Builtin.append_, run_underlying Tryd.underlying78, sizeOf, typeInfo, hi, Builtin.lenOf, Builtin.firstCells, loadCells, loadCellsFrom]
  ·have hr := run_append_nil (P := Tryd.prog) w 78 ty 5 i0 (.int .u8 0) Tryd.underlying78 hi hz0 a m c (news.map (Value.int .u8)) (by rw [hz1]; simp [hl]) hnv (by omega) (by omega) (by rw [hz2]; omega)
   have hge := grownCap_ge w m 0 5
   have hcm : grownCap w m 0 5 ≤ maxLen := grownCap_le_maxLen w m 0 5 (by unfold maxLen; omega)
   rw [zeroCells_eq] at hr
   rw [show (news.map (Value.int .u8)).toArray = U news from rfl, U_append] at hr
   refine ⟨_, _, hr, _, _, by rw [Nat.zero_add], ⟨below_drew_alloc hB _, .inr ⟨_, _, rfl, by have := hB.size; omega, row_drew_alloc w _, hL.append (Limbs.replicate _), by simp [hl]; omega, by omega, by unfold maxLen at hcm; omega, ?_⟩⟩, grown_drew_alloc w _ _, fun k h => .inr (by cases h; exact Nat.le_refl _)⟩
   rw [Nat.zero_add, List.nil_append, ← hl, List.take_left]
 ·by_cases hroom : n + m ≤ cap
  ·have hr' := run_append_room (P := Tryd.prog) w 78 ty 5 i0 Tryd.underlying78 hi b n cap (U zs) hr a m c (news.map (Value.int .u8)) (by rw [hz1]; simp [hl]) hnv hone hroom (by rw [hz1, U_size]; simp [hl]; omega)
   refine ⟨_, _, hr', some ⟨b, 0, none⟩, cap, rfl, ⟨?_, .inr ⟨b, zs.take n ++ news ++ zs.drop (n + m), rfl, hb, ?_, ((hlz.take n).append hL).append (hlz.drop _), by simp [hl]; omega, hroom, hm, ?_⟩⟩, ⟨rfl, rfl, rfl, by simp, fun k _ hk => setRow_other w b k _ (fun e => hk (by simp [blk, e]))⟩, fun k h => .inl h⟩
   ·exact hB.trans ⟨rfl, rfl, rfl, by simp, fun k hk => setRow_other w b k _ (by omega)⟩
   ·have := setRow_heap w b (U zs) ((U zs).toList.take (n * i0.size) ++ news.map (Value.int .u8) ++ (U zs).toList.drop (n * i0.size + (news.map (Value.int .u8)).length)).toArray 5 (0, 0) hr
    rw [Row, this]
    simp [U, hz1, hl, List.map_take, List.map_drop]
   ·have e : (zs.take n ++ news).length = n + m := by simp [hl]; omega
    rw [← e, List.take_left]
  ·have holds : ∀ j v, ((zs.take n).map (Value.int .u8))[j]? = some v → w.cell? ((⟨b, 0, none⟩ : Addr).add j) = some v := fun j v hv => by
    obtain ⟨h1, rfl⟩ := lz_map hv
    have h2 : j < n := by rw [List.length_take] at h1; omega
    rw [lz_take, if_pos h2, Addr.add_lit, Nat.zero_add]
    exact hr.cell (by omega)
   have hr' := run_append_grow (P := Tryd.prog) w 78 ty 5 i0 (.int .u8 0) Tryd.underlying78 hi hz0 ⟨b, 0, none⟩ n cap ((zs.take n).map (Value.int .u8)) (by rw [hz1]; simp; omega) holds a m c (news.map (Value.int .u8)) (by rw [hz1]; simp [hl]) hnv (by omega) (by omega) (growslice_fits (by omega) (by rw [hz2]; omega))
   have hge := grownCap_ge w (n + m) cap 5
   have hcm : grownCap w (n + m) cap 5 ≤ maxLen := grownCap_le_maxLen w (n + m) cap 5 (by unfold maxLen; omega)
   rw [zeroCells_eq] at hr'
   rw [show (news.map (Value.int .u8)).toArray = U news from rfl, show ((zs.take n).map (Value.int .u8)).toArray = U (zs.take n) from rfl, U_append, U_append] at hr'
   refine ⟨_, _, hr', _, _, rfl, ⟨below_drew_alloc hB _, .inr ⟨_, _, rfl, by have := hB.size; omega, row_drew_alloc w _, ((hlz.take n).append hL).append (Limbs.replicate _), by simp [hl]; omega, by omega, by unfold maxLen at hcm; omega, ?_⟩⟩, grown_drew_alloc w _ _, fun k h => .inr (by cases h; exact Nat.le_refl _)⟩
   have e : (zs.take n ++ news).length = n + m := by simp [hl]; omega
   rw [← e, List.take_left]


end Go.Proofs.YtndhjoofbkgkiaaDoor.Bt
