/-
 Several texts in one: XN, XP.
-/
import Derived.Test.YtcgdhbgjmapoeaaDoorP08
namespace Go.Proofs.YtcgdhbgjmapoeaaDoor
open Go.RowKit Go.Shelf

/-- what Tokens answers -/
def TokRes (s : ByteArray) (xs : List TM) (x : Int) (p : Nat) : Prop := (x = 0 ∧ p = 0 ∧ Lxs s (xs.map TM.d) 0 0) ∨ (x ≠ 0 ∧ xs = [] ∧ ∃ ts, Lxs s ts x p)
theorem tokRes_unique {s : ByteArray} {xs ys : List TM} {x y : Int} {p q : Nat} (h : TokRes s xs x p) (h' : TokRes s ys y q) : xs.map TM.d = ys.map TM.d ∧ x = y ∧ p = q := by
 rcases h with ⟨rfl, rfl, h⟩ | ⟨h0, rfl, ts, h⟩ <;> rcases h' with ⟨rfl, rfl, h'⟩ | ⟨h0', rfl, ts', h'⟩
 ·exact lxs_unique h h'
 ·exact absurd (lxs_unique h h').2.1.symm h0'
 ·exact absurd (lxs_unique h h').2.1 h0
 ·exact ⟨rfl, (lxs_unique h h').2⟩
theorem lx_len {s : ByteArray} {a : Nat} {ts : List TD} {e : Int} {p : Nat} (h : Lx s a ts e p) : ts.length ≤ s.size - a := by
 induction ts generalizing a with
 | nil => exact Nat.zero_le _
 | cons t ts ih =>
  obtain ⟨k, h, hk, hw, hr⟩ := h.cons
  replace ih := ih hr
  have h1 := wd_size hw hk
  have h2 := hw.2.1
  have h3 := h.1
  rw [List.length_cons]
  omega
theorem tokRes_len {s : ByteArray} {xs : List TM} {x : Int} {p : Nat} (h : TokRes s xs x p) : xs.length ≤ s.size := by
 rcases h with ⟨_, _, h⟩ | ⟨_, rfl, _⟩
 ·unfold Lxs at h
  split at h
  ·exact absurd h.2.1 (by decide)
  ·have := lx_len h
   rw [List.length_map] at this
   omega
 ·exact Nat.zero_le _
theorem tokens_u (s : ByteArray) (w : World) (hs : s.size ≤ 1099511627776) (hS : Sgn w) :
  Calls Tryd.prog 9 #[.string s] w fun e w' => ∃ (xs : List TM) (va : Option Addr) (vn vc : Nat) (x : Int) (p : Nat), TokRes s xs x p ∧ e = .returned (.tuple #[.slice va vn vc, .agg #[.int .i64 x, .int .i64 p]]) ∧ w'.ownsRow w.heap.size 44 5 (.slice va vn vc) xs.length (xs.flatMap V5) ∧ (∀ x ∈ xs, Mg w w' x) ∧ SpZ w' tokZ (.slice va vn vc) ∧ Below w.heap.size w w' := by
 refine (tokens_any s w hs hS).mono ?_
 rintro e w1 (⟨xs, v, hx, rfl, hrow, hmg, hz, hb⟩ | ⟨ts, x, p, hx, hx0, rfl, hb⟩)
 ·obtain ⟨a, m, c, rfl⟩ := own_slice hrow
  exact ⟨xs, a, m, c, 0, 0, .inl ⟨rfl, rfl, hx⟩, rfl, hrow, hmg, hz, hb⟩
 ·exact ⟨[], none, 0, 0, x, p, .inr ⟨hx0, rfl, ts, hx⟩, rfl, World.ownsRow_nil _ _ _ _, fun x hx => (by cases hx), spz_nil _ _, hb⟩
end Go.Proofs.YtcgdhbgjmapoeaaDoor

namespace Go.Proofs.YtcgdhbgjmapoeaaDoor
open Go.RowKit Go.Shelf

theorem pfx1 {s : ByteArray} (h0 : 0 < s.size) (c : UInt8) : pfx s ⟨#[c]⟩ = (bt s 0 == c.toNat) := by
 rw [Bool.eq_iff_iff, pfx_iff, beq_iff_eq]
 constructor
 ·rintro ⟨_, h⟩
  exact h 0 (by show 0 < 1; decide)
 ·intro h
  refine ⟨by show 1 ≤ s.size; omega, fun i hi => ?_⟩
  obtain rfl : i = 0 := by have : i < 1 := hi; omega
  exact h
theorem pfx2_small {s : ByteArray} (h : s.size < 2) (c d : UInt8) : pfx s ⟨#[c, d]⟩ = false := by
 rw [Bool.eq_false_iff]
 intro hp
 have : 2 ≤ s.size := (pfx_iff.1 hp).1
 omega
theorem pfx2_big {s : ByteArray} (h : 2 ≤ s.size) (c d : UInt8) : pfx s ⟨#[c, d]⟩ = ((s.extract 0 2).toList == [c, d]) := by
 unfold pfx
 have e : (⟨#[c, d]⟩ : ByteArray).toList = [c, d] := by rw [ByteArray.toList_eq]
 rw [e, decide_eq_true (show (⟨#[c, d]⟩ : ByteArray).size ≤ s.size from h), Bool.true_and]
 rfl
/-- which byte a sign of one byte may be -/
def sg1 (b : Nat) : Bool := b == 60 || b == 62 || b == 61 || b == 43 || b == 45 || b == 42 || b == 46 || b == 40 || b == 41
theorem sgOf_size {s : ByteArray} (h0 : 0 < s.size) : (sgOf s).size = if pfx s ⟨#[60, 61]⟩ || pfx s ⟨#[62, 61]⟩ || pfx s ⟨#[33, 61]⟩ then 2 else if sg1 (bt s 0) then 1 else 0 := by
 unfold sgOf signL
 cases h1 : pfx s ⟨#[60, 61]⟩
 case true => simp [List.find?, h1]; rfl
 cases h2 : pfx s ⟨#[62, 61]⟩
 case true => simp [List.find?, h1, h2]; rfl
 cases h3 : pfx s ⟨#[33, 61]⟩
 case true => simp [List.find?, h1, h2, h3]; rfl
 simp only [List.find?, h1, h2, h3, pfx1 h0, Bool.or_false, Bool.false_eq_true, if_false]
 unfold sg1
 generalize bt s 0 = b
 by_cases k0 : b = 60
 ·subst k0; rfl
 by_cases k1 : b = 62
 ·subst k1; rfl
 by_cases k2 : b = 61
 ·subst k2; rfl
 by_cases k3 : b = 43
 ·subst k3; rfl
 by_cases k4 : b = 45
 ·subst k4; rfl
 by_cases k5 : b = 42
 ·subst k5; rfl
 by_cases k6 : b = 46
 ·subst k6; rfl
 by_cases k7 : b = 40
 ·subst k7; rfl
 by_cases k8 : b = 41
 ·subst k8; rfl
 rw [beq_eq_false_iff_ne.2 k0, beq_eq_false_iff_ne.2 k1, beq_eq_false_iff_ne.2 k2, beq_eq_false_iff_ne.2 k3, beq_eq_false_iff_ne.2 k4, beq_eq_false_iff_ne.2 k5, beq_eq_false_iff_ne.2 k6, beq_eq_false_iff_ne.2 k7, beq_eq_false_iff_ne.2 k8]
 have e0 : (b == UInt8.toNat 60) = false := beq_eq_false_iff_ne.2 k0
 have e1 : (b == UInt8.toNat 62) = false := beq_eq_false_iff_ne.2 k1
 have e2 : (b == UInt8.toNat 61) = false := beq_eq_false_iff_ne.2 k2
 have e3 : (b == UInt8.toNat 43) = false := beq_eq_false_iff_ne.2 k3
 have e4 : (b == UInt8.toNat 45) = false := beq_eq_false_iff_ne.2 k4
 have e5 : (b == UInt8.toNat 42) = false := beq_eq_false_iff_ne.2 k5
 have e6 : (b == UInt8.toNat 46) = false := beq_eq_false_iff_ne.2 k6
 have e7 : (b == UInt8.toNat 40) = false := beq_eq_false_iff_ne.2 k7
 have e8 : (b == UInt8.toNat 41) = false := beq_eq_false_iff_ne.2 k8
 rw [e0, e1, e2, e3, e4, e5, e6, e7, e8]
 rfl
theorem sg1_iff {b : Nat} : sg1 b = true ↔ b = 60 ∨ b = 62 ∨ b = 61 ∨ b = 43 ∨ b = 45 ∨ b = 42 ∨ b = 46 ∨ b = 40 ∨ b = 41 := by
 unfold sg1
 simp only [Bool.or_eq_true, beq_iff_eq, or_assoc]
theorem sg1_yes {b : Nat} {n : Nat} (h : n = if sg1 b then 1 else 0) (hb : (b : Int) = 60 ∨ (b : Int) = 62 ∨ (b : Int) = 61 ∨ (b : Int) = 43 ∨ (b : Int) = 45 ∨ (b : Int) = 42 ∨ (b : Int) = 46 ∨ (b : Int) = 40 ∨ (b : Int) = 41) : (1 : Int) = n := by
 rw [h, if_pos (sg1_iff.2 (by omega))]; rfl
theorem sg1_no {b : Nat} {n : Nat} (h : n = if sg1 b then 1 else 0) (h0 : ¬ (b : Int) = 60) (h1 : ¬ (b : Int) = 62) (h2 : ¬ (b : Int) = 61) (h3 : ¬ (b : Int) = 43) (h4 : ¬ (b : Int) = 45) (h5 : ¬ (b : Int) = 42) (h6 : ¬ (b : Int) = 46) (h7 : ¬ (b : Int) = 40) (h8 : ¬ (b : Int) = 41) : (0 : Int) = n := by
 rw [h, if_neg (fun hq => by have := sg1_iff.1 hq; omega)]; rfl

theorem lx_blank {s : ByteArray} {k : Nat} {ts : List TD} {x : Int} {p : Nat} (hc : cls (bt s k) = 0) (h : Lx s (k + 1) ts x p) : Lx s k ts x p := by
 have key : ∀ m, BlankEnd s (k + 1) m → BlankEnd s k m := by
  intro m hm
  refine ⟨by have := hm.1; omega, hm.2.1, fun j h1 h2 => ?_, hm.2.2.2⟩
  by_cases e : j = k
  ·rw [e]; exact hc
  ·exact hm.2.2.1 j (by omega) h2
 cases ts with
 | nil =>
  rcases h.nil with ⟨h', rfl, rfl⟩ | ⟨k', h', hk, hn, rfl⟩
  ·exact .done (key _ h')
  ·exact .bad (key _ h') hk hn
 | cons t ts =>
  obtain ⟨k', h', hk, hw, hr⟩ := h.cons
  exact .word (key _ h') hk hw hr

theorem slice_kn {s : ByteArray} {k n : Nat} (h : k + n ≤ s.size) (u : World) : (Instr.slice 9 (.string s) (some (.int .i64 (k : Int))) (some (.int .i64 ((k : Int) + (n : Int)))) none).run Tryd.prog u = .ok (.string (s.extract k (k + n))) u := by
 have := run_slice_string (P := Tryd.prog) u 9 s .i64 .i64 (k : Int) ((k : Int) + (n : Int)) Tryd.underlying9 (by omega) (by omega) (by omega)
 rw [this]
 congr 3
theorem cls_zero {b : Int} : cls b = 0 ↔ b = 32 ∨ b = 9 ∨ b = 10 ∨ b = 13 := by
 unfold cls
 constructor
 ·intro h
  split at h
  ·assumption
  ·split at h
   ·cases h
   ·split at h
    ·cases h
    ·split at h <;> cases h
 ·intro h; rw [if_pos h]

theorem lx_wd {s : ByteArray} {a : Nat} {ts : List TD} {e : Int} {p : Nat} (h : Lx s a ts e p) : ∀ t ∈ ts, Wd s t.at' t ∧ t.at' < s.size := by
 induction ts generalizing a with
 | nil => intro t ht; cases ht
 | cons t0 ts ih =>
  obtain ⟨k, h, hk, hw, hr⟩ := h.cons
  replace ih := ih hr
  intro t ht
  rcases List.mem_cons.1 ht with rfl | ht
  ·have e := hw.1
   rw [e]
   exact ⟨hw, hk⟩
  ·exact ih t ht
theorem cls_61 {b : Nat} (h : cls b = 0) : b ≠ 61 := by
 rintro rfl
 exact absurd h (by decide)
theorem pfx2_iff {s : ByteArray} {c d : UInt8} : pfx s ⟨#[c, d]⟩ = true ↔ 2 ≤ s.size ∧ bt s 0 = c.toNat ∧ bt s 1 = d.toNat := by
 rw [pfx_iff]
 constructor
 ·rintro ⟨h1, h2⟩
  exact ⟨h1, h2 0 (by show 0 < 2; decide), h2 1 (by show 1 < 2; decide)⟩
 ·rintro ⟨h1, h2, h3⟩
  refine ⟨h1, fun i hi => ?_⟩
  have hi' : i < 2 := hi
  rcases (show i = 0 ∨ i = 1 from by omega) with rfl | rfl
  ·exact h2
  ·exact h3
def twoB (s : ByteArray) : Bool := pfx s ⟨#[60, 61]⟩ || pfx s ⟨#[62, 61]⟩ || pfx s ⟨#[33, 61]⟩
theorem twoB_iff {s : ByteArray} : twoB s = true ↔ 2 ≤ s.size ∧ (bt s 0 = 60 ∨ bt s 0 = 62 ∨ bt s 0 = 33) ∧ bt s 1 = 61 := by
 unfold twoB
 rw [Bool.or_eq_true, Bool.or_eq_true, pfx2_iff, pfx2_iff, pfx2_iff]
 constructor
 ·rintro ((⟨h1, h2, h3⟩ | ⟨h1, h2, h3⟩) | ⟨h1, h2, h3⟩)
  ·exact ⟨h1, .inl h2, h3⟩
  ·exact ⟨h1, .inr (.inl h2), h3⟩
  ·exact ⟨h1, .inr (.inr h2), h3⟩
 ·rintro ⟨h1, h2 | h2 | h2, h3⟩
  ·exact .inl (.inl ⟨h1, h2, h3⟩)
  ·exact .inl (.inr ⟨h1, h2, h3⟩)
  ·exact .inr ⟨h1, h2, h3⟩

theorem sgOf_move {u0 u : ByteArray} (h0 : 0 < (sgOf u0).size) (hn : (sgOf u0).size < u.size) (hb : ∀ i, i < (sgOf u0).size → bt u i = bt u0 i) (hc : cls (bt u (sgOf u0).size) = 0) : (sgOf u).size = (sgOf u0).size := by
 have hp0 : 0 < u0.size := by have := sgOf_le u0; omega
 have e0 := sgOf_size hp0
 have e := sgOf_size (s := u) (by omega)
 have hb0 := hb 0 h0
 change _ = if twoB u0 = true then 2 else _ at e0
 change _ = if twoB u = true then 2 else _ at e
 by_cases ht : twoB u0 = true
 ·rw [if_pos ht] at e0
  rw [e0] at hn hb hc
  have h2 := twoB_iff.1 ht
  have h1 := hb 1 (by omega)
  rw [e, e0, if_pos (twoB_iff.2 ⟨by omega, by rw [hb0]; exact h2.2.1, by rw [h1]; exact h2.2.2⟩)]
 ·rw [if_neg ht] at e0
  have hs1 : sg1 (bt u0 0) = true := by
   by_cases hq : sg1 (bt u0 0) = true
   ·exact hq
   ·rw [if_neg hq] at e0; omega
  rw [if_pos hs1] at e0
  rw [e0] at hc
  have hnt : ¬ twoB u = true := fun h => cls_61 hc (twoB_iff.1 h).2.2
  rw [e, e0, if_neg hnt, hb0, if_pos hs1]
theorem wd_move {s0 S : ByteArray} {a a' : Nat} {t : TD} (h : Wd s0 a t) (ha : a < s0.size) (hsz : a' + t.text.size < S.size) (hb : ∀ i, i < t.text.size → bt S (a' + i) = bt t.text i) (hc : cls (bt S (a' + t.text.size)) = 0) :
  Wd S a' ⟨t.kind, t.text, t.num, a'⟩ := by
 have hpos := wd_size h ha
 obtain ⟨h1, h2, h3, h4⟩ := h
 have hbt : ∀ i, i < t.text.size → bt t.text i = bt s0 (a + i) := by
  intro i hi
  have := bt_mid' (s := s0) h2 hi
  rwa [← h3] at this
 have hz : (S.extract a' (a' + t.text.size)).size = t.text.size := size_mid (by omega)
 have htx : t.text = S.extract a' (a' + t.text.size) := by
  refine ba_ext hz.symm fun i hi => ?_
  rw [bt_mid' (by omega) hi, hb i hi]
 have h0 : bt S a' = bt s0 a := by
  have := hb 0 hpos
  rw [Nat.add_zero] at this
  rw [this, hbt 0 hpos, Nat.add_zero]
 have hrow : RowAt s0 a t.text.size → RowAt S a' t.text.size := by
  intro hr
  refine ⟨by omega, fun j hj => ?_, fun _ => ?_⟩
  ·rw [hb j hj, hbt j hj]; exact hr.2.1 j hj
  ·unfold inRow
   rw [hc]
   rfl
 refine ⟨rfl, by show a' + t.text.size ≤ S.size; omega, htx, ?_⟩
 rw [h0]
 rcases h4 with ⟨c1, r1, o1, k1, n1⟩ | ⟨c1, r1, k1, o1, n1⟩ | ⟨c1, d1, x1, o1, k1, n1⟩
 ·exact .inl ⟨c1, hrow r1, o1, k1, n1⟩
 ·exact .inr (.inl ⟨c1, hrow r1, k1, o1, n1⟩)
 ·refine .inr (.inr ⟨c1, d1, ?_, o1, k1, n1⟩)
  show t.text = sgOf (S.extract a' S.size)
  have hl : (sgOf (s0.extract a s0.size)).size = t.text.size := by rw [← x1]
  have hus : (S.extract a' S.size).size = S.size - a' := size_suffix
  have hm : (sgOf (S.extract a' S.size)).size = t.text.size := by
   rw [← hl]
   refine sgOf_move (by omega) (by omega) (fun i hi => ?_) ?_
   ·rw [bt_suffix (by omega), bt_suffix (by omega), hb i (by omega), hbt i (by omega)]
   ·rw [hl, bt_suffix (by omega)]; exact hc
  have he := sgOf_eq (s := S.extract a' S.size) (by omega)
  rw [hm, extract_suffix (by omega)] at he
  rw [he]; exact htx
end Go.Proofs.YtcgdhbgjmapoeaaDoor
