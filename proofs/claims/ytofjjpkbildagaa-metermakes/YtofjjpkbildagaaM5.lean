/-
  Layer 7: lists of numbers, limb by limb; which is too long.
-/
import Derived.Test.YtofjjpkbildagaaM4
import Derived.Test.YtofjjpkbildagaaM3
namespace Go.Proofs.Ytofjjpkbildagaa
open Go.RowKit Mt

/-- a list of numbers in memory, limb by limb -/
def NL (w : World) (ad : Option Addr) (n : Nat) (L : List (Bool × List Int)) (B : Nat) : Prop :=
  L.length = n ∧ (n = 0 ∨ ∃ b off, ad = some ⟨b, off, none⟩ ∧ ∀ i (_ : i < L.length), ∃ a l c, w.cell? ⟨b, off + i * 2, none⟩ = some (.bool (L[i]).1) ∧ w.cell? ⟨b, off + i * 2 + 1, none⟩ = some (.slice a l c) ∧ Rd w a l c (L[i]).2 ∧ l ≤ B)

/-- in block b lie whole numbers alone -/
def IntB (w : World) (b : Nat) : Prop := ∀ off v, w.cell? ⟨b, off, none⟩ = some v → ∃ z, v = .int .i64 z

theorem MB.intB {w : World} {b : Nat} {n k c e : Int} (h : MB w b n k c e) : IntB w b := by
  intro off v hv
  rw [cell_of_row w b off _ _ (0, 0) h] at hv
  match off with
  | 0 => exact ⟨n, by simpa using hv.symm⟩
  | 1 => exact ⟨k, by simpa using hv.symm⟩
  | 2 => exact ⟨c * 256 + e, by simpa using hv.symm⟩
  | j + 3 => simp at hv
theorem RB.intB {w : World} {b : Nat} {n k c e : Int} (h : RB w b n k c e) : IntB w b := by
  intro off v hv
  rw [cell_of_row w b off _ _ (0, 0) h] at hv
  match off with
  | 0 => exact ⟨n, by simpa using hv.symm⟩
  | 1 => exact ⟨k, by simpa using hv.symm⟩
  | 2 => exact ⟨c, by simpa using hv.symm⟩
  | 3 => exact ⟨e, by simpa using hv.symm⟩
  | j + 4 => simp at hv

theorem cell_lt {w : World} {b off : Nat} {v : Value} (h : w.cell? ⟨b, off, none⟩ = some v) : b < w.heap.size := World.block_lt_of_cell? w ⟨b, off, none⟩ h
theorem But.cell {b b2 off : Nat} {w w' : World} {v : Value} (g : But b w w') (h : w.cell? ⟨b2, off, none⟩ = some v) (hne : b2 ≠ b) : w'.cell? ⟨b2, off, none⟩ = some v :=
  (World.cell?_of_block (w := w) (g.block b2 (cell_lt h) hne)).trans h

theorem Rd.but {w w' : World} {b : Nat} {a : Option Addr} {l c : Nat} {xs : List Int} (h : Rd w a l c xs) (hi : IntB w b) (g : But b w w') : Rd w' a l c xs := by
  obtain ⟨h1, h2, h3, h4, h5⟩ := h
  refine ⟨h1, h2, h3, h4, ?_⟩
  rcases h5 with h5 | ⟨a0, ha, h5⟩
  · exact .inl h5
  · refine .inr ⟨a0, ha, ?_⟩
    rcases h5 with h5 | ⟨b2, off, rfl, hlt, hc⟩
    · exact .inl h5
    · by_cases h0 : l = 0
      · exact .inl h0
      · have hne : b2 ≠ b := by
          rintro rfl
          obtain ⟨z, hz⟩ := hi _ _ (hc 0 (by omega))
          cases hz
        exact .inr ⟨b2, off, rfl, Nat.lt_of_lt_of_le hlt g.size, fun i hi => g.cell (hc i hi) hne⟩

theorem NL.below {w w' : World} {ad : Option Addr} {n : Nat} {L : List (Bool × List Int)} {B : Nat} (h : NL w ad n L B) (g : Below w.heap.size w w') : NL w' ad n L B := by
  refine ⟨h.1, ?_⟩
  rcases h.2 with h | ⟨b, off, rfl, h0⟩
  · exact .inl h
  · refine .inr ⟨b, off, rfl, fun i hi => ?_⟩
    obtain ⟨a, l, c, h1, h2, h3, h4⟩ := h0 i hi
    exact ⟨a, l, c, (g.cell (p := ⟨b, off + i * 2, none⟩) (cell_lt h1)).trans h1, (g.cell (p := ⟨b, off + i * 2 + 1, none⟩) (cell_lt h2)).trans h2, h3.below g, h4⟩
theorem NL.but {w w' : World} {b : Nat} {ad : Option Addr} {n : Nat} {L : List (Bool × List Int)} {B : Nat} (h : NL w ad n L B) (hi : IntB w b) (g : But b w w') : NL w' ad n L B := by
  refine ⟨h.1, ?_⟩
  rcases h.2 with h | ⟨b2, off, rfl, h0⟩
  · exact .inl h
  · refine .inr ⟨b2, off, rfl, fun i hi2 => ?_⟩
    obtain ⟨a, l, c, h1, h2, h3, h4⟩ := h0 i hi2
    have hne : b2 ≠ b := by
      rintro rfl
      obtain ⟨z, hz⟩ := hi _ _ h1
      cases hz
    exact ⟨a, l, c, g.cell h1 hne, g.cell h2 hne, h3.but hi g, h4⟩

/-- a number is longer than k limbs -/
def isl (k : Int) (x : Bool × List Int) : Bool := decide (k < (tl x.2 x.2.length : Int))

theorem sk7c {w w' : World} {p b : Nat} {n k c2 e2 : Int} {s : Bool} {a : Option Addr} {l c : Nat} (y : ZB w p s a l c) (h : MB w b n k c2 e2) (g : Below w.heap.size w w') :
    w'.cell? ⟨p, 0, none⟩ = some (.bool s) ∧ w'.cell? ⟨p, 1, none⟩ = some (.slice a l c) ∧ w'.cell? ⟨b, 1, none⟩ = some (.int .i64 k) ∧ Below w.heap.size w w' :=
  ⟨(y.below g).c0, (y.below g).c1, (h.below g).c1, g⟩

set_option maxRecDepth 100000 in
set_option maxHeartbeats 1600000 in
theorem islong_n {w : World} {b : Nat} {n k c e : Int} {s : Bool} {a : Option Addr} {l cc : Nat} {xs : List Int} (h : MB w b n k c e) (hr : Rd w a l cc xs) (hl : l ≤ 1099511627776) :
    Calls Try.prog 27 #[.pointer (some ⟨b, 0, none⟩), .agg #[.bool s, .slice a l cc]] w fun x w' => x = .returned (.bool (isl k (s, xs))) ∧ Below w.heap.size w w' := by
  have hxl := hr.1
  subst hxl
  unfold isl
  dsimp only
  generalize ht : (tl xs xs.length) = t
  have x := zb_new w s a xs.length cc
  have b0 := below_alloc7 w (.cells #[.bool s, .slice a xs.length cc] 48)
  have hb := h.below b0
  have hrb := hr.below b0
  have HH := hide (And.intro ht (And.intro x (And.intro b0 (And.intro hb hrb))))
  clear x b0 hb hrb ht
  go_enter Try.func27, Try.ntmps27
  go_wp2_with fail
  obtain ⟨ht, x, b0, hb, hrb⟩ := HH.out
  clear HH h hr
  replace ht := hide ht
  generalize w.alloc (.cells #[.bool s, .slice a xs.length cc] 48) = wb at *
  generalize hp : w.heap.size = p at *
  replace hp := hide hp
  go_region_held3 (fun w' => w'.cell? ⟨p, 0, none⟩ = some (.bool s) ∧ w'.cell? ⟨p, 1, none⟩ = some (.slice a xs.length cc) ∧ w'.cell? ⟨b, 1, none⟩ = some (.int .i64 k) ∧ Below wb.heap.size wb w')
    ((refine sk7c x hb ?_; (repeat' (first | with_reducible exact Below.refl _ _ | with_reducible assumption | with_reducible refine step7 (by with_reducible assumption) ?_ | with_reducible refine g7_drew ?_ | with_reducible refine g7_alloc ?_ _ | with_reducible refine g7_drewN ?_ _))))
    ((go_at_call 36; with_reducible refine (zlimbs_n (Rd.below hrb (by (repeat' (first | with_reducible exact Below.refl _ _ | with_reducible assumption | with_reducible refine step7 (by with_reducible assumption) ?_ | with_reducible refine g7_drew ?_ | with_reducible refine g7_alloc ?_ _ | with_reducible refine g7_drewN ?_ _)))) hl).mono ?_; rintro x w6 ⟨rfl, hg⟩; rw [ht.out]))
  rename_i hH
  have kf := hide (b0.trans (hH.2.2.2.mono (hp.out ▸ b0.size)))
  clear hH b0 hg
  go_wp2
  go_ret
  exact ⟨rfl, hp.out ▸ kf.out⟩

set_option maxRecDepth 100000 in
set_option maxHeartbeats 1600000 in
theorem index_n {w : World} {b : Nat} {n k c e : Int} {ad : Option Addr} {m cp : Nat} {L : List (Bool × List Int)} {B : Nat} (h : MB w b n k c e) (hL : NL w ad m L B) (hB : B ≤ 1048576) (hm : m ≤ 1048576) :
    Calls Try.prog 35 #[.slice ad m cp, .func (.func 27) #[.pointer (some ⟨b, 0, none⟩)] #[]] w fun x w' => ∃ i : Int, x = .returned (.int .i64 i) ∧ (decide (0 ≤ i) = L.any (isl k)) ∧ -1 ≤ i ∧ i < m ∧ Below w.heap.size w w' := by
  go_enter Try.func35, Try.ntmps35
  go_wp2_with fail
  go_loopw [8] (fun i wr => ∃ t : Nat, t ≤ m ∧ i = .int .i64 t ∧ Hid ((L.take t).any (isl k) = false) ∧ Hid (Below w.heap.size w wr)) (fun i _ => m - (intOf i).toNat)
  case atStart => exact ⟨0, Nat.zero_le _, rfl, (show _ = _ by simp), Below.refl _ _⟩
  case round =>
    obtain ⟨t, ht, rfl, hno, kr⟩ := hrel
    by_cases htm : t < m
    · have hLl := hL.1
      obtain ⟨-, hLL⟩ := hL.below kr.out
      rcases hLL with h0 | ⟨bp, op, rfl, hLL⟩
      · omega
      · obtain ⟨a, l, cc, e0, e1, hr, hl⟩ := hLL t (by omega)
        have hstep : Hid ((L.take (t + 1)).any (isl k) = isl k L[t]) := (show _ = _ by rw [List.take_succ_eq_append_getElem (l := L) (i := t) (by omega), List.any_append, hno.out]; simp)
        have hex : Hid (isl k L[t] = true → L.any (isl k) = true) := (fun hh => List.any_eq_true.2 ⟨L[t], List.getElem_mem _, hh⟩)
        generalize L[t] = lt at *
        obtain ⟨ls, lx⟩ := lt
        dsimp only at *
        have hmb := hide (h.below kr.out)
        clear hL hLL
        go_wp2_with fail
        refine (islong_n hmb.out hr (by omega)).mono ?_
        rintro x w2 ⟨rfl, k2⟩
        replace k2 := hide (step7 k2 kr.out)
        cases hil : isl k (ls, lx) with
        | true =>
          have hany := hide (hex.out hil)
          replace hil := hide hil
          go_wp2
          go_ret
          exact ⟨t, rfl, by rw [hany.out]; simp, by omega, by omega, k2.out⟩
        | false =>
          replace hil := hide hil
          go_wp2
          go_round
          case rel => exact ⟨t + 1, by omega, by go_num, hstep.out.trans hil.out, k2.out⟩
          case measure => simp [intOf]; omega
    · obtain rfl : t = m := by omega
      have hall : Hid (L.any (isl k) = false) := by
        have h1 := hno.out
        rw [List.take_of_length_le (by have := hL.1; omega)] at h1
        exact h1
      clear hno
      go_wp2
      go_ret
      exact ⟨-1, rfl, by rw [hall.out]; rfl, by omega, by omega, kr.out⟩

set_option maxRecDepth 100000 in
set_option maxHeartbeats 1600000 in
theorem contains_n {w : World} {b : Nat} {n k c e : Int} {ad : Option Addr} {m cp : Nat} {L : List (Bool × List Int)} {B : Nat} (h : MB w b n k c e) (hL : NL w ad m L B) (hB : B ≤ 1048576) (hm : m ≤ 1048576) :
    Calls Try.prog 26 #[.slice ad m cp, .func (.func 27) #[.pointer (some ⟨b, 0, none⟩)] #[]] w fun x w' => x = .returned (.bool (L.any (isl k))) ∧ Below w.heap.size w w' := by
  go_enter Try.func26, Try.ntmps26
  go_wp2_with fail
  refine (index_n h hL hB hm).mono ?_
  rintro x w2 ⟨i, rfl, hi, hi1, hi2, k2⟩
  replace k2 := hide k2
  replace hi := hide hi
  go_wp2
  go_ret
  exact ⟨by rw [← hi.out]; rfl, k2.out⟩

set_option maxRecDepth 100000 in
set_option maxHeartbeats 1600000 in
theorem node1_long {w : World} {bl bm : Nat} {c : Int} (hx : BX w bl (.bool true) 4) :
    Calls Try.prog 28 (#[.agg #[.int .i64 c, .int .i64 0]] ++ #[.pointer (some ⟨bl, 0, none⟩), .pointer (some ⟨bm, 0, none⟩)]) w fun x w' =>
      x = .returned (.tuple #[.agg #[.int .i64 c, .int .i64 71], .int .i64 71]) ∧ Below w.heap.size w w' := by
  show Calls Try.prog 28 #[.agg #[.int .i64 c, .int .i64 0], .pointer (some ⟨bl, 0, none⟩), .pointer (some ⟨bm, 0, none⟩)] w _
  have x0 := hx.c0
  have x1 := hx.lt
  have b0 := step7 (below_alloc7 (w.alloc (.cells #[.int .i64 c, .int .i64 0] 61)) (.cells #[.int .i64 0, .int .i64 0] 61)) (below_alloc7 w _)
  have y := TL7.new (w.alloc (.cells #[.int .i64 c, .int .i64 0] 61)) 0 0
  rw [show (w.alloc (.cells #[.int .i64 c, .int .i64 0] 61)).heap.size = w.heap.size + 1 from by simp] at y
  have HH := hide (And.intro b0 y)
  clear b0 y
  go_enter Try.func28, Try.ntmps28
  go_wp2_with fail
  obtain ⟨b0, y⟩ := HH.out
  clear HH x0 x1 hx
  generalize (w.alloc (.cells #[.int .i64 c, .int .i64 0] 61)).alloc (.cells #[.int .i64 0, .int .i64 0] 61) = wb at *
  have hr : w.heap.size ≤ w.heap.size + 1 := by omega
  generalize w.heap.size + 1 = r at *
  refine cross_n.mono ?_
  rintro x w1 ⟨rfl, k1⟩
  have y1 := y.below k1
  have u0 := y1.c0
  have u1 := y1.c1
  have u2 := y1.f 0
  have u3 := y1.f 1
  have kf := hide (((step7 k1 b0).setCell (p := ⟨r, 0, none⟩) hr (.int .i64 c)).setCell (p := ⟨r, 1, none⟩) hr (.int .i64 71))
  clear k1 b0
  go_wp2
  refine bodyPost_ret (results_ct7 rfl _ _ r 61 _ (0, 0) _ rfl (y1.set c 71) Try.underlying61 rfl (by kernel_rfl)) rfl ?_
  exact ⟨rfl, kf.out⟩
end Go.Proofs.Ytofjjpkbildagaa
