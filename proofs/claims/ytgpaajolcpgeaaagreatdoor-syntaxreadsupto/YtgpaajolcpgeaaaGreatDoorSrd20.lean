/-
 Layer 4: what stands in memory is one tree; maps with addresses as keys.
-/
import Derived.Test.YtgpaajolcpgeaaaGreatDoorSrd19
import Derived.Test.YtgpaajolcpgeaaaGreatDoorSrd07
import Derived.LaidEqlPtr
import Derived.WideKeyRuns
namespace Go.Proofs.YtgpaajolcpgeaaaGreatDoor
open Go.RowKit
namespace Sx

theorem rd_one {w : World} {a : Option Addr} {l c c' : Nat} {xs ys : List Int} (h : Rd w a l c xs) (h' : Rd w a l c' ys) : xs = ys := by
 obtain ⟨h1, -, -, -, h5⟩ := h
 obtain ⟨k1, -, -, -, k5⟩ := h'
 by_cases hl : l = 0
 ·rw [List.length_eq_zero_iff.1 (h1.trans hl), List.length_eq_zero_iff.1 (k1.trans hl)]
 ·rcases h5 with h5 | ⟨a0, e, h5 | ⟨b, off, e2, hb, h5⟩⟩
  ·exact absurd h5.2.1 hl
  ·exact absurd h5 hl
  rcases k5 with k5 | ⟨a1, e', k5 | ⟨b', off', e2', hb', k5⟩⟩
  ·exact absurd k5.2.1 hl
  ·exact absurd k5 hl
  subst e2 e2'
  rw [e] at e'
  cases e'
  refine List.ext_getElem (h1.trans k1.symm) fun i hi hi' => ?_
  have := (h5 i (h1 ▸ hi)).symm.trans (k5 i (h1 ▸ hi))
  simp only [Option.some.injEq, Value.int.injEq, true_and] at this
  have e1 : lz xs i = xs[i] := by simp [lz, List.getD, hi]
  have e3 : lz ys i = ys[i] := by simp [lz, List.getD, hi']
  rw [← e1, ← e3, this]
theorem nmL_one {F F' : Nat → Prop} {w : World} {a : Option Addr} {n : Nat} {l l' : List ByteArray} (h : NmL F w a n l) (h' : NmL F' w a n l') : l = l' := by
 by_cases hn : n = 0
 ·rw [List.length_eq_zero_iff.1 (h.1.trans hn), List.length_eq_zero_iff.1 (h'.1.trans hn)]
 ·obtain ⟨b, off, e, -, -, h2⟩ := h.2.resolve_left hn
  obtain ⟨b', off', e', -, -, k2⟩ := h'.2.resolve_left hn
  rw [e] at e'
  cases e'
  refine List.ext_getElem (h.1.trans h'.1.symm) fun i hi hi' => ?_
  have := (h2 i hi).symm.trans (k2 i hi')
  simpa using this
theorem enc_inj {x y : TC} (h : ∀ j, j < 6 → x.enc[j]? = y.enc[j]?) : x = y := by
 have h0 := h 0 (by decide)
 have h1 := h 1 (by decide)
 have h2 := h 2 (by decide)
 have h3 := h 3 (by decide)
 have h4 := h 4 (by decide)
 have h5 := h 5 (by decide)
 obtain ⟨k, nm, na, nn, nc, s, a, l, c, ka, kn, kc⟩ := x
 obtain ⟨k', nm', na', nn', nc', s', a', l', c', ka', kn', kc'⟩ := y
 simp [TC.enc] at h0 h1 h2 h3 h4 h5
 obtain ⟨rfl, rfl, rfl⟩ := h2
 obtain ⟨rfl, rfl, rfl⟩ := h4
 obtain ⟨rfl, rfl, rfl⟩ := h5
 subst h0 h1 h3
 rfl
theorem rk_one2 {F F' : Nat → Prop} {w : World} {R R' : TC → Tr → Prop} {ka : Option Addr} {kn : Nat} {ks ks' : List Tr} (h : RK F w R ka kn ks) (h' : RK F' w R' ka kn ks') (hR : ∀ x t t', R x t → R' x t' → t = t') : ks = ks' := by
 by_cases hn : kn = 0
 ·rw [List.length_eq_zero_iff.1 (h.1.trans hn), List.length_eq_zero_iff.1 (h'.1.trans hn)]
 ·obtain ⟨b, off, e, -, -, h2⟩ := h.2.resolve_left hn
  obtain ⟨b', off', e', -, -, k2⟩ := h'.2.resolve_left hn
  rw [e] at e'
  cases e'
  refine List.ext_getElem (h.1.trans h'.1.symm) fun i hi hi' => ?_
  obtain ⟨y, h3, h4⟩ := h2 i hi
  obtain ⟨y', k3, k4⟩ := k2 i hi'
  obtain rfl := enc_inj fun j hj => (h3 j hj).symm.trans (k3 j hj)
  exact hR _ _ _ h4 k4
theorem rt_fun {F F' : Nat → Prop} {w : World} (n : Nat) : ∀ {x : TC} {t t' : Tr}, RT F w n x t → Rt F' w x t' → t = t' := by
 induction n with
 | zero => exact fun h => h.elim
 | succ n ih =>
  rintro x t t' ⟨l, ks, rfl, h2, h3⟩ h'
  obtain ⟨l', ks', rfl⟩ := rt_of h'
  obtain ⟨k2, k3⟩ := rt_nd h'
  obtain rfl := rk_one2 h3 k3 fun _ _ _ h1 h2 => ih h1 h2
  obtain ⟨k, nm, nms, s, xs⟩ := l
  obtain ⟨k', nm', nms', s', xs'⟩ := l'
  obtain rfl : k = k' := h2.k.trans k2.k.symm
  obtain rfl : nm = nm' := h2.nm.trans k2.nm.symm
  obtain rfl : s = s' := h2.s.trans k2.s.symm
  obtain rfl : nms = nms' := nmL_one h2.nms k2.nms
  obtain rfl : xs = xs' := rd_one h2.rd k2.rd
  rfl
/-- ONE TREE STANDS THERE -/
theorem rt_one_only {F F' : Nat → Prop} {w : World} {x : TC} {t t' : Tr} (h : Rt F w x t) (h' : Rt F' w x t') : t = t' := by
 obtain ⟨n, h⟩ := h
 exact rt_fun n h h'
/-- the kids that stand there -/
theorem rk_only {F F' : Nat → Prop} {w : World} {ka : Option Addr} {kn : Nat} {ks ks' : List Tr} (h : RK F w (Rt F w) ka kn ks) (h' : RK F' w (Rt F' w) ka kn ks') : ks = ks' := rk_one2 h h' fun _ _ _ => rt_one_only
/-- an address that may be held against others -/
def Un (F : Nat → Prop) (w : World) (a : Option Addr) : Prop := a = none ∨ ∃ b off, a = some ⟨b, off, none⟩ ∧ F b ∧ Ub w b
theorem same_addr {w : World} {a b : Addr} (ha : Ub w a.block) (hb : Ub w b.block) : (sameAddr a b).run Tryz.prog w = .ok (decide (a = b)) w := by
 by_cases h : a = b
 ·subst h
  rw [run_sameAddr_same, decide_eq_true rfl]
 ·obtain ⟨ca, ta, ha⟩ := ha
  obtain ⟨cb, tb, hb⟩ := hb
  rw [run_sameAddr_other w h ha hb, decide_eq_false h]
/-- a list of kids as a key -/
def spV (a : Option Addr) (n : Nat) : Value := .agg #[.pointer a, .int .i64 n]
theorem infoT6 : (Tryz.prog.info? 28).map (·.size) = some 6 := by kernel_rfl
theorem part_0 (a : Option Addr) (n : Int) (w : World) : (part 87 #[.pointer a, .int .i64 n] 0).run Tryz.prog w = .ok (.pointer a) w := by kernel_rfl
theorem part_1 (a : Option Addr) (n : Int) (w : World) : (part 3 #[.pointer a, .int .i64 n] 1).run Tryz.prog w = .ok (.int .i64 n) w := by kernel_rfl
theorem eq_ptr {F : Nat → Prop} {w : World} {a b : Option Addr} (ha : Un F w a) (hb : Un F w b) (d : Nat) : (Op.equalIn (d + 1) 87 (.pointer a) (.pointer b)).run Tryz.prog w = .ok (decide (a = b)) w := by
 have hi : ∃ j, Tryz.prog.info? 28 = some j ∧ j.size = 6 := by
  have := infoT6
  cases h : Tryz.prog.info? 28 with
  | none => rw [h] at this; cases this
  | some j =>
   rw [h] at this
   exact ⟨j, rfl, Option.some.inj this⟩
 obtain ⟨j, hj, hs⟩ := hi
 rcases ha with rfl | ⟨b1, o1, rfl, -, h1⟩
 ·rcases hb with rfl | ⟨b2, o2, rfl, -, h2⟩
  ·simp [Op.equalIn, run_underlying Tryz.underlying87]
  ·simp [Op.equalIn, run_underlying Tryz.underlying87]
 ·rcases hb with rfl | ⟨b2, o2, rfl, -, h2⟩
  ·simp [Op.equalIn, run_underlying Tryz.underlying87]
  ·simp [Op.equalIn, run_underlying Tryz.underlying87, sizeOf, typeInfo, hj, hs, same_addr (a := ⟨b1, o1, none⟩) (b := ⟨b2, o2, none⟩) h1 h2]
theorem eq_i (n m : Int) (w : World) (d : Nat) : (Op.equalIn (d + 1) 3 (.int .i64 n) (.int .i64 m)).run Tryz.prog w = .ok (n == m) w := by
 simp [Op.equalIn, run_underlying Tryz.underlying3]
end Sx
end Go.Proofs.YtgpaajolcpgeaaaGreatDoor
