/-
  Several texts in one: YO, YR, YP, YQ, YS.
-/
import Derived.Test.YtjhhknfnaobmiaaGreatDoorJ7
import Derived.Test.YtjhhknfnaobmiaaGreatDoorYI
import Derived.Test.YtjhhknfnaobmiaaGreatDoorZA
import Derived.Test.YtjhhknfnaobmiaaGreatDoorY3
namespace Go.Proofs.YtjhhknfnaobmiaaGreatDoor
open Go.RowKit Go.Sort Go.Shelf
open Tm

open Classical in
/-- how many limbs a number has -/
noncomputable def lbz (z : Int) : Nat := if h : ∃ zs, Canon zs ∧ val zs = (z.natAbs : Int) then (Classical.choose h).length else 0
end Go.Proofs.YtjhhknfnaobmiaaGreatDoor

namespace Go.Proofs.YtjhhknfnaobmiaaGreatDoor
open Go.RowKit Go.Sort Go.Shelf
open Tm

abbrev gx (X : List (Int × Bool × List Int)) (i : Nat) : Int × Bool × List Int := X.getD i (0, false, [])
/-- a list of parts, limb by limb -/
def PX (w : World) (ad : Option Addr) (n : Nat) (X : List (Int × Bool × List Int)) (B : Nat) : Prop :=
 X.length = n ∧ (n = 0 ∨ ∃ b off, ad = some ⟨b, off, none⟩ ∧ b < w.heap.size ∧ ∀ i, i < n → ∃ a l c, w.cell? ⟨b, off + i * 3, none⟩ = some (.int .i64 (gx X i).1) ∧ w.cell? ⟨b, off + i * 3 + 1, none⟩ = some (.bool (gx X i).2.1) ∧ w.cell? ⟨b, off + i * 3 + 2, none⟩ = some (.slice a l c) ∧ Rd w a l c (gx X i).2.2 ∧ l ≤ B ∧ I64 (gx X i).1)
theorem PX.below {w w' : World} {ad : Option Addr} {n : Nat} {X : List (Int × Bool × List Int)} {B : Nat} (h : PX w ad n X B) (hb : Below w.heap.size w w') : PX w' ad n X B := by
 refine ⟨h.1, ?_⟩
 rcases h.2 with h2 | ⟨b, off, e, hlt, h2⟩
 ·exact .inl h2
 ·refine .inr ⟨b, off, e, Nat.lt_of_lt_of_le hlt hb.size, fun i hi => ?_⟩
  obtain ⟨a, l, c, e0, e1, e2, hr, hl, hv⟩ := h2 i hi
  exact ⟨a, l, c, (hb.cell (p := ⟨b, off + i * 3, none⟩) hlt).trans e0, (hb.cell (p := ⟨b, off + i * 3 + 1, none⟩) hlt).trans e1, (hb.cell (p := ⟨b, off + i * 3 + 2, none⟩) hlt).trans e2, hr.below hb, hl, hv⟩
theorem gx_map {α : Type} {f : α → Int × Bool × List Int} {L : List α} {i : Nat} (h : i < L.length) : gx (L.map f) i = f L[i] := by
 simp [List.getElem?_eq_getElem h]
theorem gx_range {f : Nat → Int × Bool × List Int} {n i : Nat} (h : i < n) : gx ((List.range n).map f) i = f i := by
 rw [gx_map (by simpa using h)]; simp
open Classical in
theorem pr_px {w : World} {ad : Option Addr} {n : Nat} {ps : List (Int × Int)} {B : Nat} (h : Pr w ad n ps B) : ∃ X, PX w ad n X B := by
 obtain ⟨hn, h2⟩ := h
 rcases h2 with h2 | ⟨b, off, e, hlt, h2⟩
 ·exact ⟨(List.range n).map fun _ => (0, false, []), by simp, .inl h2⟩
 ·have hx : ∀ i, ∃ x : Int × Bool × List Int, i < n → ∃ a l c, w.cell? ⟨b, off + i * 3, none⟩ = some (.int .i64 x.1) ∧ w.cell? ⟨b, off + i * 3 + 1, none⟩ = some (.bool x.2.1) ∧ w.cell? ⟨b, off + i * 3 + 2, none⟩ = some (.slice a l c) ∧ Rd w a l c x.2.2 ∧ l ≤ B ∧ I64 x.1 := fun i => by
   by_cases hi : i < n
   ·obtain ⟨s, a, l, c, e0, e1, e2, ⟨m, ⟨xs, hr, _⟩, _⟩, hl, hv⟩ := h2 i (by omega)
    exact ⟨((ps[i]'(by omega)).1, s, xs), fun _ => ⟨a, l, c, e0, e1, e2, hr, hl, hv⟩⟩
   ·exact ⟨(0, false, []), fun h => absurd h hi⟩
  refine ⟨(List.range n).map fun i => Classical.choose (hx i), by simp, .inr ⟨b, off, e, hlt, fun i hi => ?_⟩⟩
  rw [gx_range hi]
  exact Classical.choose_spec (hx i) hi
/-- a part that may stand -/
def okX (x : Int × Bool × List Int) : Prop := StandsB x.2.1 x.2.2.length x.2.2 = true ∧ val x.2.2 ≠ 0
/-- parts that stand as they should -/
def VX (X : List (Int × Bool × List Int)) : Prop := ∀ i, i < X.length → okX (gx X i) ∧ (0 < i → (gx X (i - 1)).1 < (gx X i).1)

theorem canon_tl {xs : List Int} {l : Nat} (h : Canon xs) (hl : xs.length = l) : tl xs l = l := by
 have h1 := canon_inj (canon_trim h.1) h (val_trim xs)
 have h2 := congrArg List.length h1
 unfold trim at h2
 rw [List.length_take, hl] at h2
 have := tl_le xs l
 omega
theorem Zn.stands {w : World} {s : Bool} {a : Option Addr} {l c : Nat} {z : Int} (h : Zn w s a l c z) : ∃ xs, Rd w a l c xs ∧ StandsB s l xs = true ∧ sg s (val xs) = z := by
 obtain ⟨n, ⟨xs, hr, hc, hv⟩, hz, hs⟩ := h
 have e := canon_tl hc hr.1
 refine ⟨xs, hr, ?_, by rw [hv, hz]⟩
 unfold StandsB
 rw [e]
 cases s
 ·simp
 ·have h0 := hs rfl
  have : 0 < l := by
   rw [← hr.1]
   apply Nat.pos_of_ne_zero
   intro e0
   have := List.length_eq_zero_iff.1 e0
   subst this
   exact h0 (hv.symm.trans rfl)
  simp [this]
theorem sg_zero {s : Bool} {n : Int} : sg s n = 0 ↔ n = 0 := by cases s <;> simp [sg]

theorem zm_rd {w : World} {s : Bool} {a : Option Addr} {l c : Nat} {xs : List Int} (h : Rd w a l c xs) : Zm w s a l c (sg s (val xs)) := ⟨_, ⟨xs, h, rfl⟩, rfl⟩
theorem cmp_sg {s : Bool} {n : Int} : cmpI (sg s n) 0 = 0 ↔ n = 0 := by
 unfold cmpI sg
 cases s <;> simp <;> omega
theorem tb9_new (w : World) (ad : Option Addr) (n cp : Nat) (s : Bool) (a : Option Addr) (l c : Nat) : (w.alloc (.cells #[.slice ad n cp, .bool s, .slice a l c] 27)).heap[w.heap.size]? = some (.cells #[.slice ad n cp, .bool s, .slice a l c] 27 (0, 0)) := heap_alloc_new w _
set_option maxRecDepth 100000 in
set_option maxHeartbeats 3200000 in
theorem tvalid_n {w : World} {ad : Option Addr} {n cp : Nat} {s : Bool} {a : Option Addr} {l c : Nat} {X : List (Int × Bool × List Int)} {xs : List Int} {B : Nat} (hX : PX w ad n X B) (hr : Rd w a l c xs) (hn : n ≤ 536870912) (hB : B ≤ 1099511627776) :
  Calls Tryz.prog 46 #[.agg #[.slice ad n cp, .bool s, .slice a l c]] w fun e w' => ∃ b, e = .returned (.bool b) ∧ (b = true ↔ VX X ∧ StandsB s l xs = true) ∧ Below w.heap.size w w' := by
 go_enter Tryz.func46, Tryz.ntmps46
 go_wp2_with fail
 have x := tb9_new w ad n cp s a l c
 have b0 := below_alloc w (.cells #[.slice ad n cp, .bool s, .slice a l c] 27)
 replace hX := hX.below b0
 replace hr := hr.below b0
 generalize w.alloc (.cells #[.slice ad n cp, .bool s, .slice a l c] 27) = wb at *
 generalize hp : w.heap.size = q at *
 replace b0 : Hid (Below w.heap.size w wb) := hp ▸ b0
 replace hp := hide hp
 obtain ⟨hXn, hX⟩ := hX
 have hq : q < wb.heap.size := (Array.getElem?_eq_some_iff.1 x).1
 go_loopw [8] (fun i wr => ∃ t : Nat, t ≤ n ∧ i = .int .i64 t ∧ Hid (∀ j, j < t → okX (gx X j) ∧ (0 < j → (gx X (j - 1)).1 < (gx X j).1)) ∧ Below wb.heap.size wb wr) (fun i _ => n - (intOf i).toNat)
 case atStart => exact ⟨0, Nat.zero_le _, rfl, (fun j hj => absurd hj (by omega)), Below.refl _ _⟩
 case round =>
  obtain ⟨t, ht, rfl, hok, kr⟩ := hrel
  have xr : wr.heap[q]? = _ := (kr.block q hq).trans x
  by_cases htn : t < n
  ·rcases hX with hX | ⟨b, off, rfl, hb, hX⟩
   ·omega
   ·obtain ⟨a5, l5, c5, e0, e1, e2, hr5, hl5, hv5⟩ := hX t htn
    have ka := below_alloc wr (.cells #[.int .i64 (gx X t).1, .bool (gx X t).2.1, .slice a5 l5 c5] 71)
    have kb := hide (grow_step ka kr)
    replace e0 := (kr.cell (p := ⟨b, off + t * 3, none⟩) hb).trans e0
    replace e1 := (kr.cell (p := ⟨b, off + t * 3 + 1, none⟩) hb).trans e1
    replace e2 := (kr.cell (p := ⟨b, off + t * 3 + 2, none⟩) hb).trans e2
    have hr6 := hr5.below kb.out
    have hblt := Nat.lt_of_lt_of_le hb kr.size
    have hqr : q < wr.heap.size := Nat.lt_of_lt_of_le hq kr.size
    generalize hpp : gx X t = pp at *
    obtain ⟨pv, ps, pxs⟩ := pp
    replace hpp := hide hpp
    dsimp only at *
    by_cases h0 : t = 0
    ·subst h0
     simp only [Nat.zero_mul, Nat.add_zero] at e0 e1 e2
     go_wp2_with fail
     go_quiet (fail)
     have kq : Hid (Below wb.heap.size wb ((wr.alloc (.cells #[.int .i64 pv, .bool ps, .slice a5 l5 c5] 71)).drewN nq)) := grow_drewN kb.out nq
     have pb : ((wr.alloc (.cells #[.int .i64 pv, .bool ps, .slice a5 l5 c5] 71)).drewN nq).heap[wr.heap.size]? = some (.cells #[.int .i64 pv, .bool ps, .slice a5 l5 c5] 71 (0, 0)) := heap_alloc_new wr _
     have hpl : wr.heap.size < ((wr.alloc (.cells #[.int .i64 pv, .bool ps, .slice a5 l5 c5] 71)).drewN nq).heap.size := (Array.getElem?_eq_some_iff.1 pb).1
     clear ka
     generalize (wr.alloc (.cells #[.int .i64 pv, .bool ps, .slice a5 l5 c5] 71)).drewN nq = wq at *
     generalize wr.heap.size = pr at *
     have p1 := cell_of_row wq pr 1 _ _ (0, 0) pb
     have p2 := cell_of_row wq pr 2 _ _ (0, 0) pb
     go_wp2_with fail
     refine (zvalid_n (s := ps) (hr5.below kq.out)).mono ?_
     rintro e w5 ⟨rfl, k5⟩
     have k6 := hide (grow_step k5 kq.out)
     have p3 := (k5.cell (p := ⟨pr, 1, none⟩) hpl).trans p1
     have p4 := (k5.cell (p := ⟨pr, 2, none⟩) hpl).trans p2
     have hr7 := hr5.below k6.out
     clear p1 p2 k5 kq kb hr6
     by_cases hst : StandsB ps l5 pxs = true
     ·rw [hst]
      go_wp2_with fail
      refine (zsign_n (zm_rd (s := ps) hr7) (by omega)).mono ?_
      rintro e w7 ⟨rfl, k7⟩
      have k8 := hide (grow_step k7 k6.out)
      clear k7 k6
      by_cases hvz : val pxs = 0
      ·rw [cmp_sg.2 hvz]
       have hno := hide (show ¬ VX X from fun h => ((h 0 (by omega)).1.2 (by rw [hpp.out]; exact hvz)))
       go_wp2
       go_ret
       exact ⟨false, rfl, by simp [hno.out], b0.out.trans (k8.out.mono b0.out.size)⟩
      ·have hcz : cmpI (sg ps (val pxs)) 0 ≠ 0 := fun h => hvz (cmp_sg.1 h)
       have hall : Hid (∀ j, j < 0 + 1 → okX (gx X j) ∧ (0 < j → (gx X (j - 1)).1 < (gx X j).1)) := (fun j hj => by
        rcases Nat.lt_or_ge j (0) with h | h
        ·exact hok.out j h
        ·obtain rfl : j = 0 := by omega
         refine ⟨?_, ?_⟩
         ·rw [hpp.out]; exact ⟨by simp only; rw [hr7.1]; exact hst, hvz⟩
         ·intro h; omega)
       generalize cmpI (sg ps (val pxs)) 0 = cz at *
       go_wp2_with fail
       exact ⟨⟨0 + 1, by omega, by go_num, hall, k8.out⟩, by simp [intOf]; omega⟩
     ·have hst' : StandsB ps l5 pxs = false := by simpa using hst
      rw [hst']
      have hno := hide (show ¬ VX X from fun h => hst (by have := (h 0 (by omega)).1.1; rw [hpp.out] at this; simp only at this; rwa [hr7.1] at this))
      go_wp2_with fail
      go_ret
      exact ⟨false, rfl, by simp [hno.out], b0.out.trans (k6.out.mono b0.out.size)⟩
    ·obtain ⟨m, rfl⟩ : ∃ m, t = m + 1 := ⟨t - 1, by omega⟩
     obtain ⟨a7, l7, c7, g0, -, -, -, -, -⟩ := hX m (by omega)
     replace g0 := (kr.cell (p := ⟨b, off + m * 3, none⟩) hb).trans g0
     have x0 : wr.cell? ⟨q, 0, none⟩ = some _ := cell_of_row wr q 0 _ _ (0, 0) xr
     generalize hqq : (gx X m).1 = qv at *
     replace hqq := hide hqq
     by_cases hlt : qv < pv
     ·skip
      go_wp2_with fail
      go_quiet (fail)
      have kq : Hid (Below wb.heap.size wb ((wr.alloc (.cells #[.int .i64 pv, .bool ps, .slice a5 l5 c5] 71)).drewN nq)) := grow_drewN kb.out nq
      have pb : ((wr.alloc (.cells #[.int .i64 pv, .bool ps, .slice a5 l5 c5] 71)).drewN nq).heap[wr.heap.size]? = some (.cells #[.int .i64 pv, .bool ps, .slice a5 l5 c5] 71 (0, 0)) := heap_alloc_new wr _
      have hpl : wr.heap.size < ((wr.alloc (.cells #[.int .i64 pv, .bool ps, .slice a5 l5 c5] 71)).drewN nq).heap.size := (Array.getElem?_eq_some_iff.1 pb).1
      clear ka
      generalize (wr.alloc (.cells #[.int .i64 pv, .bool ps, .slice a5 l5 c5] 71)).drewN nq = wq at *
      generalize wr.heap.size = pr at *
      have p1 := cell_of_row wq pr 1 _ _ (0, 0) pb
      have p2 := cell_of_row wq pr 2 _ _ (0, 0) pb
      go_wp2_with fail
      refine (zvalid_n (s := ps) (hr5.below kq.out)).mono ?_
      rintro e w5 ⟨rfl, k5⟩
      have k6 := hide (grow_step k5 kq.out)
      have p3 := (k5.cell (p := ⟨pr, 1, none⟩) hpl).trans p1
      have p4 := (k5.cell (p := ⟨pr, 2, none⟩) hpl).trans p2
      have hr7 := hr5.below k6.out
      clear p1 p2 k5 kq kb hr6
      by_cases hst : StandsB ps l5 pxs = true
      ·rw [hst]
       go_wp2_with fail
       refine (zsign_n (zm_rd (s := ps) hr7) (by omega)).mono ?_
       rintro e w7 ⟨rfl, k7⟩
       have k8 := hide (grow_step k7 k6.out)
       clear k7 k6
       by_cases hvz : val pxs = 0
       ·rw [cmp_sg.2 hvz]
        have hno := hide (show ¬ VX X from fun h => ((h (m + 1) (by omega)).1.2 (by rw [hpp.out]; exact hvz)))
        go_wp2
        go_ret
        exact ⟨false, rfl, by simp [hno.out], b0.out.trans (k8.out.mono b0.out.size)⟩
       ·have hcz : cmpI (sg ps (val pxs)) 0 ≠ 0 := fun h => hvz (cmp_sg.1 h)
        have hall : Hid (∀ j, j < (m + 1) + 1 → okX (gx X j) ∧ (0 < j → (gx X (j - 1)).1 < (gx X j).1)) := (fun j hj => by
         rcases Nat.lt_or_ge j ((m + 1)) with h | h
         ·exact hok.out j h
         ·obtain rfl : j = (m + 1) := by omega
          refine ⟨?_, ?_⟩
          ·rw [hpp.out]; exact ⟨by simp only; rw [hr7.1]; exact hst, hvz⟩
          ·intro _; rw [hpp.out, show m + 1 - 1 = m by omega, hqq.out]; exact hlt)
        generalize cmpI (sg ps (val pxs)) 0 = cz at *
        go_wp2_with fail
        exact ⟨⟨(m + 1) + 1, by omega, by go_num, hall, k8.out⟩, by simp [intOf]; omega⟩
      ·have hst' : StandsB ps l5 pxs = false := by simpa using hst
       rw [hst']
       have hno := hide (show ¬ VX X from fun h => hst (by have := (h (m + 1) (by omega)).1.1; rw [hpp.out] at this; simp only at this; rwa [hr7.1] at this))
       go_wp2_with fail
       go_ret
       exact ⟨false, rfl, by simp [hno.out], b0.out.trans (k6.out.mono b0.out.size)⟩
     ·have hno := hide (show ¬ VX X from fun h => hlt (by have := (h (m + 1) (by omega)).2 (by omega); rw [hpp.out, show m + 1 - 1 = m by omega, hqq.out] at this; exact this))
      go_wp2_with fail
      go_quiet (fail)
      go_wp2
      go_ret
      exact ⟨false, rfl, by simp [hno.out], b0.out.trans ((grow_drewN kb.out _).mono b0.out.size)⟩
  ·obtain rfl : t = n := by omega
   have x1 := cell_of_row wr q 1 _ _ (0, 0) xr
   have x2 := cell_of_row wr q 2 _ _ (0, 0) xr
   go_wp2_with fail
   refine (zvalid_n (s := s) (hr.below kr)).mono ?_
   rintro e w5 ⟨rfl, k5⟩
   have k6 := hide (grow_step k5 kr)
   clear k5
   go_wp2
   go_ret
   exact ⟨_, rfl, ⟨fun h => ⟨fun i hi => hok.out i (by omega), h⟩, fun h => h.2⟩, b0.out.trans (k6.out.mono b0.out.size)⟩
set_option maxRecDepth 100000 in
set_option maxHeartbeats 3200000 in
theorem rvalid5_n {w : World} {ad : Option Addr} {n cp : Nat} {s : Bool} {a : Option Addr} {l c : Nat} {X : List (Int × Bool × List Int)} {xs : List Int} {B : Nat} (hX : PX w ad n X B) (hr : Rd w a l c xs) (hl : l ≤ B) (hn : n ≤ 536870912) (hB : B ≤ 1099511627776) :
  Calls Tryz.prog 99 #[.agg #[.slice ad n cp, .bool s, .slice a l c]] w fun e w' => ∃ b, e = .returned (.bool b) ∧ (b = true ↔ VX X ∧ StandsB s l xs = true) ∧ Below w.heap.size w w' := by
 go_enter Tryz.func99, Tryz.ntmps99
 go_wp2_with fail
 have x := tb9_new w ad n cp s a l c
 have b0 := below_alloc w (.cells #[.slice ad n cp, .bool s, .slice a l c] 27)
 replace hX := hX.below b0
 replace hr := hr.below b0
 generalize w.alloc (.cells #[.slice ad n cp, .bool s, .slice a l c] 27) = wb at *
 generalize hp : w.heap.size = q at *
 replace b0 : Hid (Below w.heap.size w wb) := hp ▸ b0
 replace hp := hide hp
 obtain ⟨hXn, hX⟩ := hX
 have hq : q < wb.heap.size := (Array.getElem?_eq_some_iff.1 x).1
 refine (rvalid_n (s := s) hr (by omega)).mono ?_
 rintro e w1 ⟨rfl, k1⟩
 replace hr := hide hr
 have fine : Hid (StandsB s l xs = StandsB s l xs) := (show _ = _ from rfl)
 generalize hfine : StandsB s l xs = bf at *
 replace hfine := hide hfine
 clear fine
 go_wp2_with fail
 go_loopw [4] (fun i wr => ∃ t : Nat, t ≤ n ∧ i = .int .i64 t ∧ Hid (∀ j, j < t → okX (gx X j) ∧ (0 < j → (gx X (j - 1)).1 < (gx X j).1)) ∧ Below wb.heap.size wb wr) (fun i _ => n - (intOf i).toNat)
 case atStart => exact ⟨0, Nat.zero_le _, rfl, (fun j hj => absurd hj (by omega)), k1⟩
 case round =>
  obtain ⟨t, ht, rfl, hok, kr⟩ := hrel
  have xr : wr.heap[q]? = _ := (kr.block q hq).trans x
  have x0 : wr.cell? ⟨q, 0, none⟩ = some _ := cell_of_row wr q 0 _ _ (0, 0) xr
  by_cases htn : t < n
  ·rcases hX with hX | ⟨b, off, rfl, hb, hX⟩
   ·omega
   ·obtain ⟨a5, l5, c5, e0, e1, e2, hr5, hl5, hv5⟩ := hX t htn
    have d0 := (kr.cell (p := ⟨b, off + t * 3, none⟩) hb).trans e0
    have d1 := (kr.cell (p := ⟨b, off + t * 3 + 1, none⟩) hb).trans e1
    have d2 := (kr.cell (p := ⟨b, off + t * 3 + 2, none⟩) hb).trans e2
    generalize hpp : gx X t = pp at *
    obtain ⟨pv, ps, pxs⟩ := pp
    replace hpp := hide hpp
    dsimp only at *
    go_wp2_with fail
    refine (rvalid_n (s := ps) (hr5.below kr) (by omega)).mono ?_
    rintro e w5 ⟨rfl, k5⟩
    have k6 := hide (grow_step k5 kr)
    clear d0 d1 d2 x0 kr k5
    have x5 := cell_of_row w5 q 0 _ _ (0, 0) ((k6.out.block q hq).trans x)
    have d0 := (k6.out.cell (p := ⟨b, off + t * 3, none⟩) hb).trans e0
    have d1 := (k6.out.cell (p := ⟨b, off + t * 3 + 1, none⟩) hb).trans e1
    have d2 := (k6.out.cell (p := ⟨b, off + t * 3 + 2, none⟩) hb).trans e2
    generalize hst : StandsB ps l5 pxs = st at *
    replace hst := hide hst
    go_wp2_with fail
    refine (rsign_n (zm_rd (s := ps) (hr5.below k6.out)) (by omega)).mono ?_
    rintro e w7 ⟨rfl, k7⟩
    have k8 := hide (grow_step k7 k6.out)
    clear d0 d1 d2 x5 k6 k7
    have x7 := cell_of_row w7 q 0 _ _ (0, 0) ((k8.out.block q hq).trans x)
    have d0 := (k8.out.cell (p := ⟨b, off + t * 3, none⟩) hb).trans e0
    have d1 := (k8.out.cell (p := ⟨b, off + t * 3 + 1, none⟩) hb).trans e1
    have d2 := (k8.out.cell (p := ⟨b, off + t * 3 + 2, none⟩) hb).trans e2
    have hrl := hr5.1
    go_wp2_with fail
    have hend : ∀ q' : Nat, Hid (Below w.heap.size w (w7.drewN q')) := fun q' => b0.out.trans ((grow_drewN k8.out q').mono b0.out.size)
    cases st with
    | false =>
     have hno := hide (show ¬ VX X from fun h => by have := (h t (by omega)).1.1; rw [hpp.out] at this; simp only at this; rw [hrl, hst.out] at this; cases this)
     replace hend := hide hend
     go_quiet (fail)
     go_wp2
     go_ret
     exact ⟨false, rfl, by simp [hno.out], (hend.out _).out⟩
    | true =>
     by_cases hvz : val pxs = 0
     ·rw [cmp_sg.2 hvz]
      have hno := hide (show ¬ VX X from fun h => ((h t (by omega)).1.2 (by rw [hpp.out]; exact hvz)))
      replace hend := hide hend
      go_quiet (fail)
      go_wp2
      go_ret
      exact ⟨false, rfl, by simp [hno.out], (hend.out _).out⟩
     ·have hcz : cmpI (sg ps (val pxs)) 0 ≠ 0 := fun h => hvz (cmp_sg.1 h)
      have hoo : Hid (okX (gx X t)) := (by rw [hpp.out]; exact hide (⟨by simp only; rw [hrl]; exact hst.out, hvz⟩ : okX (pv, ps, pxs)))
      have hc2 : cmpI (sg ps (val pxs)) 0 = 1 ∨ cmpI (sg ps (val pxs)) 0 = -1 := by revert hcz; unfold cmpI; split <;> (try split) <;> simp
      clear hcz hvz
      rcases hc2 with hc2 | hc2 <;> rw [hc2] <;> clear hc2
      ·skip
       by_cases h0 : t = 0
       ·subst h0
        simp only [Nat.zero_mul, Nat.add_zero] at d0 d1 d2
        have hall : Hid (∀ j, j < 0 + 1 → okX (gx X j) ∧ (0 < j → (gx X (j - 1)).1 < (gx X j).1)) := (fun j hj => by
         obtain rfl : j = 0 := by omega
         exact ⟨hoo.out, fun h => by omega⟩)
        clear hend
        go_quiet (fail)
        have k9 := hide (grow_drewN k8.out nq)
        go_wp2_with fail
        exact ⟨⟨0 + 1, by omega, by go_num, hall, k9.out⟩, by simp [intOf]; omega⟩
       ·obtain ⟨m, rfl⟩ : ∃ m, t = m + 1 := ⟨t - 1, by omega⟩
        obtain ⟨a9, l9, c9, g0, -, -, -, -, -⟩ := hX m (by omega)
        replace g0 := (k8.out.cell (p := ⟨b, off + m * 3, none⟩) hb).trans g0
        generalize hqq : (gx X m).1 = qv at *
        replace hqq := hide hqq
        by_cases hlt : qv < pv
        ·have hall : Hid (∀ j, j < m + 1 + 1 → okX (gx X j) ∧ (0 < j → (gx X (j - 1)).1 < (gx X j).1)) := (fun j hj => by
          rcases Nat.lt_or_ge j (m + 1) with h | h
          ·exact hok.out j h
          ·obtain rfl : j = m + 1 := by omega
           exact ⟨hoo.out, fun _ => by rw [hpp.out, show m + 1 - 1 = m by omega, hqq.out]; exact hlt⟩)
         clear hend
         go_quiet (fail)
         have k9 := hide (grow_drewN k8.out nq)
         go_wp2_with fail
         exact ⟨⟨m + 1 + 1, by omega, by go_num, hall, k9.out⟩, by simp [intOf]; omega⟩
        ·have hno := hide (show ¬ VX X from fun h => hlt (by have := (h (m + 1) (by omega)).2 (by omega); rw [hpp.out, show m + 1 - 1 = m by omega, hqq.out] at this; exact this))
         replace hend := hide hend
         go_quiet (fail)
         go_wp2
         go_ret
         exact .inl ⟨rfl, fun h => absurd h hno.out, (hend.out _).out⟩
      ·skip
       by_cases h0 : t = 0
       ·subst h0
        simp only [Nat.zero_mul, Nat.add_zero] at d0 d1 d2
        have hall : Hid (∀ j, j < 0 + 1 → okX (gx X j) ∧ (0 < j → (gx X (j - 1)).1 < (gx X j).1)) := (fun j hj => by
         obtain rfl : j = 0 := by omega
         exact ⟨hoo.out, fun h => by omega⟩)
        clear hend
        go_quiet (fail)
        have k9 := hide (grow_drewN k8.out nq)
        go_wp2_with fail
        exact ⟨⟨0 + 1, by omega, by go_num, hall, k9.out⟩, by simp [intOf]; omega⟩
       ·obtain ⟨m, rfl⟩ : ∃ m, t = m + 1 := ⟨t - 1, by omega⟩
        obtain ⟨a9, l9, c9, g0, -, -, -, -, -⟩ := hX m (by omega)
        replace g0 := (k8.out.cell (p := ⟨b, off + m * 3, none⟩) hb).trans g0
        generalize hqq : (gx X m).1 = qv at *
        replace hqq := hide hqq
        by_cases hlt : qv < pv
        ·have hall : Hid (∀ j, j < m + 1 + 1 → okX (gx X j) ∧ (0 < j → (gx X (j - 1)).1 < (gx X j).1)) := (fun j hj => by
          rcases Nat.lt_or_ge j (m + 1) with h | h
          ·exact hok.out j h
          ·obtain rfl : j = m + 1 := by omega
           exact ⟨hoo.out, fun _ => by rw [hpp.out, show m + 1 - 1 = m by omega, hqq.out]; exact hlt⟩)
         clear hend
         go_quiet (fail)
         have k9 := hide (grow_drewN k8.out nq)
         go_wp2_with fail
         exact ⟨⟨m + 1 + 1, by omega, by go_num, hall, k9.out⟩, by simp [intOf]; omega⟩
        ·have hno := hide (show ¬ VX X from fun h => hlt (by have := (h (m + 1) (by omega)).2 (by omega); rw [hpp.out, show m + 1 - 1 = m by omega, hqq.out] at this; exact this))
         replace hend := hide hend
         go_quiet (fail)
         go_wp2
         go_ret
         exact .inl ⟨rfl, fun h => absurd h hno.out, (hend.out _).out⟩
  ·obtain rfl : t = n := by omega
   go_wp2
   go_ret
   exact ⟨_, rfl, ⟨fun h => ⟨fun i hi => hok.out i (by omega), hfine.out.trans h⟩, fun h => hfine.out.symm.trans h.2⟩, b0.out.trans (kr.mono b0.out.size)⟩
end Go.Proofs.YtjhhknfnaobmiaaGreatDoor

namespace Go.Proofs.YtjhhknfnaobmiaaGreatDoor
open Go.RowKit Go.Sort Go.Shelf
open Tm

open Classical in
theorem pn_px {w : World} {ad : Option Addr} {n : Nat} {ps : List (Int × Int)} {B : Nat} (h : Pn w ad n ps B) (hS : Std ps) : ∃ X, PX w ad n X B ∧ VX X := by
 obtain ⟨hn, h2⟩ := h
 rcases h2 with h2 | ⟨b, off, e, hlt, h2⟩
 ·exact ⟨(List.range n).map fun _ => (0, false, []), ⟨by simp, .inl h2⟩, fun i hi => by simp at hi; omega⟩
 ·have hx : ∀ i, ∃ x : Int × Bool × List Int, (h : i < ps.length) → x.1 = (ps[i]).1 ∧ okX x ∧ ∃ a l c, w.cell? ⟨b, off + i * 3, none⟩ = some (.int .i64 x.1) ∧ w.cell? ⟨b, off + i * 3 + 1, none⟩ = some (.bool x.2.1) ∧ w.cell? ⟨b, off + i * 3 + 2, none⟩ = some (.slice a l c) ∧ Rd w a l c x.2.2 ∧ l ≤ B ∧ I64 x.1 := fun i => by
   by_cases hi : i < ps.length
   ·obtain ⟨s, a, l, c, e0, e1, e2, hz, hl, hv⟩ := h2 i hi
    obtain ⟨xs, hr, hst, hval⟩ := hz.stands
    refine ⟨((ps[i]).1, s, xs), fun _ => ⟨rfl, ⟨by rw [hr.1]; exact hst, fun h0 => ?_⟩, a, l, c, e0, e1, e2, hr, hl, hv⟩⟩
    exact hS.2 _ (List.getElem_mem hi) (hval.symm.trans (sg_zero.2 h0))
   ·exact ⟨(0, false, []), fun h => absurd h hi⟩
  refine ⟨(List.range n).map fun i => Classical.choose (hx i), ⟨by simp, .inr ⟨b, off, e, hlt, fun i hi => ?_⟩⟩, fun i hi => ?_⟩
  ·rw [gx_range hi]
   exact (Classical.choose_spec (hx i) (by omega)).2.2
  ·have hi' : i < n := by simpa using hi
   rw [gx_range hi', gx_range (by omega)]
   have h3 := Classical.choose_spec (hx i) (by omega)
   refine ⟨h3.2.1, fun h0 => ?_⟩
   have h4 := Classical.choose_spec (hx (i - 1)) (by omega)
   rw [h3.1, h4.1]
   exact List.pairwise_iff_getElem.1 hS.1 (i - 1) i (by omega) (by omega) (by omega)
theorem TN.pn {w w' : World} {ad : Option Addr} {n : Nat} {s : Bool} {a : Option Addr} {l c : Nat} {rs : List Raw} {k : Int} {B : Nat} (h : TN w w' ad n s a l c rs k B) : Pn w' ad n (rs.map Raw.p) B := by
 obtain ⟨w1, h1, h2, ⟨h3, h4⟩, _⟩ := h
 refine ⟨by simpa using h3, ?_⟩
 rcases h4 with ⟨_, h4⟩ | ⟨g, e, hg, hlt, h4⟩
 ·exact .inl h4
 ·refine .inr ⟨g, 0, e, hlt, fun i hi => ?_⟩
  have hi' : i < rs.length := by simpa using hi
  obtain ⟨⟨c0, c1, c2⟩, _, hz, hl, hv⟩ := h4 i hi'
  rw [List.getElem_map, Nat.zero_add]
  exact ⟨_, _, _, _, c0, c1, c2, hz.below h2, hl, hv⟩
end Go.Proofs.YtjhhknfnaobmiaaGreatDoor

namespace Go.Proofs.YtjhhknfnaobmiaaGreatDoor
open Go.RowKit Go.Sort Go.Shelf
open Tm

theorem ek6 {wr w' : World} {b0 b1 b2 b3 i0 i1 i2 i3 i4 i5 : Nat} {v0 v1 v2 v3 v4 v5 : Value} (h0 : wr.cell? ⟨b0, i0, none⟩ = some v0) (l0 : b0 < wr.heap.size) (h1 : wr.cell? ⟨b1, i1, none⟩ = some v1) (l1 : b1 < wr.heap.size) (h2 : wr.cell? ⟨b2, i2, none⟩ = some v2) (h3 : wr.cell? ⟨b2, i3, none⟩ = some v3) (l2 : b2 < wr.heap.size) (h4 : wr.cell? ⟨b3, i4, none⟩ = some v4) (h5 : wr.cell? ⟨b3, i5, none⟩ = some v5) (l3 : b3 < wr.heap.size) (k : Below wr.heap.size wr w') :
  w'.cell? ⟨b0, i0, none⟩ = some v0 ∧ w'.cell? ⟨b1, i1, none⟩ = some v1 ∧ w'.cell? ⟨b2, i2, none⟩ = some v2 ∧ w'.cell? ⟨b2, i3, none⟩ = some v3 ∧ w'.cell? ⟨b3, i4, none⟩ = some v4 ∧ w'.cell? ⟨b3, i5, none⟩ = some v5 ∧ Below wr.heap.size wr w' :=
 ⟨(k.cell (p := ⟨b0, i0, none⟩) l0).trans h0, (k.cell (p := ⟨b1, i1, none⟩) l1).trans h1, (k.cell (p := ⟨b2, i2, none⟩) l2).trans h2, (k.cell (p := ⟨b2, i3, none⟩) l2).trans h3, (k.cell (p := ⟨b3, i4, none⟩) l3).trans h4, (k.cell (p := ⟨b3, i5, none⟩) l3).trans h5, k⟩
theorem cmpI_self (a : Int) : cmpI a a = 0 := by unfold cmpI; simp
set_option maxRecDepth 100000 in
set_option maxHeartbeats 6400000 in
theorem rorder5_n {w : World} {ad : Option Addr} {n cp : Nat} {s : Bool} {a : Option Addr} {l c : Nat} {ps : List (Int × Int)} {k : Int} {ad2 : Option Addr} {n2 cp2 : Nat} {s2 : Bool} {a2 : Option Addr} {l2 c2 : Nat} {qs : List (Int × Int)} {k2 : Int} {B : Nat} (hP : Pr w ad n ps B) (hz : Zm w s a l c k) (hl : l ≤ B) (hP2 : Pr w ad2 n2 qs B) (hz2 : Zm w s2 a2 l2 c2 k2) (hl2 : l2 ≤ B) (hB : B + n ≤ 268435456) (hB2 : B + n2 ≤ 268435456) :
  Calls Tryz.prog 74 #[.agg #[.slice ad n cp, .bool s, .slice a l c], .agg #[.slice ad2 n2 cp2, .bool s2, .slice a2 l2 c2]] w fun e w' => e = .returned (.int .i64 (ordT (nz (lays [] ps)) (nz (lays [] qs)) k k2)) ∧ Below w.heap.size w w' := by
 go_enter Tryz.func74, Tryz.ntmps74
 go_wp2_with fail
 have y := tb_new (w.alloc (.cells #[.slice ad n cp, .bool s, .slice a l c] 27)) ad2 n2 cp2 s2 a2 l2 c2
 have b0 : Below w.heap.size w ((w.alloc (.cells #[.slice ad n cp, .bool s, .slice a l c] 27)).alloc (.cells #[.slice ad2 n2 cp2, .bool s2, .slice a2 l2 c2] 27)) := below_alloc' (below_alloc _ _) _
 rw [show (w.alloc (.cells #[.slice ad n cp, .bool s, .slice a l c] 27)).heap.size = w.heap.size + 1 from by simp] at y
 generalize (w.alloc (.cells #[.slice ad n cp, .bool s, .slice a l c] 27)).alloc (.cells #[.slice ad2 n2 cp2, .bool s2, .slice a2 l2 c2] 27) = wb at *
 generalize w.heap.size + 1 = q at *
 refine (rnorm5_n (hP.below b0) (hz.below b0) hl (by omega) (by omega)).mono ?_
 rintro e w1 ⟨ad1, n1, cp1, s1, a1, l1, c1, rfl, hT, -, k1, hn1⟩
 have kx := grow_alloc (grow_step k1 b0) (.cells #[.slice ad1 n1 cp1, .bool s1, .slice a1 l1 c1] 27)
 have x := tb_new w1 ad1 n1 cp1 s1 a1 l1 c1
 have ka := below_alloc w1 (.cells #[.slice ad1 n1 cp1, .bool s1, .slice a1 l1 c1] 27)
 replace hT := hT.below ka
 have y1 := (y.below k1).below ka
 replace hP2 := hP2.below kx
 replace hz2 := hz2.below kx
 replace kx := hide kx
 have y0 := y1.c0
 have yy1 := y1.c1
 have yy2 := y1.c2
 replace x := hide x
 replace hT := hide hT
 clear ka k1 b0 y hP hz
 go_wp2_with fail
 replace x := x.out
 replace hT := hT.out
 generalize w1.alloc (.cells #[.slice ad1 n1 cp1, .bool s1, .slice a1 l1 c1] 27) = wx at *
 generalize w1.heap.size = p at *
 refine (rnorm5_n hP2 hz2 hl2 (by omega) (by omega)).mono ?_
 rintro e w3 ⟨ad3, n3, cp3, s3, a3, l3, c3, rfl, hT3, -, k3, hn3⟩
 have kz := hide (grow_alloc (grow_step k3 kx.out) (.cells #[.slice ad3 n3 cp3, .bool s3, .slice a3 l3 c3] 27))
 have ka := below_alloc w3 (.cells #[.slice ad3 n3 cp3, .bool s3, .slice a3 l3 c3] 27)
 have z := tb_new w3 ad3 n3 cp3 s3 a3 l3 c3
 replace x := (x.below k3).below ka
 replace hT := (hT.below k3).below ka
 replace hT3 := hT3.below ka
 clear ka k3 kx y0 yy1 yy2 y1 hP2 hz2
 replace x := hide x
 replace z := hide z
 replace hT := hide hT
 replace hT3 := hide hT3
 go_wp2_with fail
 replace x := x.out
 replace hT := hT.out
 replace z := z.out
 replace hT3 := hT3.out
 generalize w3.alloc (.cells #[.slice ad3 n3 cp3, .bool s3, .slice a3 l3 c3] 27) = wz at *
 generalize w3.heap.size = r at *
 obtain ⟨us, hus⟩ : ∃ us, nz (lays [] ps) = us := ⟨_, rfl⟩
 obtain ⟨vs, hvs⟩ : ∃ vs, nz (lays [] qs) = vs := ⟨_, rfl⟩
 rw [hus] at hT
 rw [hvs] at hT3
 have hans : Hid (ordT (nz (lays [] ps)) (nz (lays [] qs)) k k2 = ordT us vs k k2) := (show _ = _ by rw [hus, hvs])
 clear hus hvs
 obtain ⟨⟨hu, hU⟩, hk, hlk⟩ := hT
 obtain ⟨⟨hv, hV⟩, hk3, hlk3⟩ := hT3
 go_loopw [7] (fun i wr => ∃ t : Nat, t ≤ n1 ∧ t ≤ n3 ∧ i = .int .i64 t ∧ Hid (ordL us vs = ordL (us.drop t) (vs.drop t)) ∧ Below wz.heap.size wz wr) (fun i _ => n1 - (intOf i).toNat)
 case atStart => exact ⟨0, Nat.zero_le _, Nat.zero_le _, rfl, by show _ = _; simp, Below.refl _ _⟩
 case round =>
  obtain ⟨t, ht, ht3, rfl, hord, kr⟩ := hrel
  have xr := x.below kr
  have zr := z.below kr
  have x0 := xr.c0
  have z0 := zr.c0
  by_cases htn : t < n1 ∧ t < n3
  ·obtain ⟨htn, htn3⟩ := htn
   rcases hU with hU | ⟨b1, o1, rfl, hU⟩
   ·omega
   rcases hV with hV | ⟨b2, o2, rfl, hV⟩
   ·omega
   obtain ⟨s5, a5, l5, c5, e0, e1, e2, hz5, hl5, hv5⟩ := (hU.below kr).2 t (by omega)
   obtain ⟨s6, a6, l6, c6, f0, f1, f2, hz6, hl6, hv6⟩ := (hV.below kr).2 t (by omega)
   have hdrop := hide (ordL_drop (ps := us) (qs := vs) (t := t) (by omega) (by omega))
   generalize us[t] = pp at *
   generalize vs[t] = qq at *
   obtain ⟨pv, pz⟩ := pp
   obtain ⟨qv, qz⟩ := qq
   dsimp only at *
   by_cases hne : pv = qv
   ·subst hne
    have hcz : Hid (ordQ (pv, pz) (pv, qz) = cmpI pz qz) := (show _ = _ by simp [ordQ, cmpI_self])
    go_wp2_with fail
    go_quiet (fail)
    have kq := hide (grow_drewN kr nq)
    have x0' : (wr.drewN nq).cell? ⟨p, 0, none⟩ = _ := x0
    have z0' : (wr.drewN nq).cell? ⟨r, 0, none⟩ = _ := z0
    have e1' : (wr.drewN nq).cell? ⟨b1, o1 + t * 3 + 1, none⟩ = _ := e1
    have e2' : (wr.drewN nq).cell? ⟨b1, o1 + t * 3 + 2, none⟩ = _ := e2
    have f1' : (wr.drewN nq).cell? ⟨b2, o2 + t * 3 + 1, none⟩ = _ := f1
    have f2' : (wr.drewN nq).cell? ⟨b2, o2 + t * 3 + 2, none⟩ = _ := f2
    have g5 := hz5.below (below_drewN _ _ nq)
    have g6 := hz6.below (below_drewN _ _ nq)
    clear x0 z0 e1 e2 f1 f2 e0 f0 hz5 hz6
    have hpl : p < (wr.drewN nq).heap.size := xr.lt
    have hrl : r < (wr.drewN nq).heap.size := zr.lt
    have h1l : b1 < (wr.drewN nq).heap.size := (hU.below kr).1
    have h2l : b2 < (wr.drewN nq).heap.size := (hV.below kr).1
    generalize wr.drewN nq = wq at *
    replace g5 := hide g5
    replace g6 := hide g6
    clear hU hV
    go_wp2_with fail
    go_region_held3 (fun w' => w'.cell? ⟨p, 0, none⟩ = some (.slice (some ⟨b1, o1, none⟩) n1 cp1) ∧ w'.cell? ⟨r, 0, none⟩ = some (.slice (some ⟨b2, o2, none⟩) n3 cp3) ∧ w'.cell? ⟨b1, o1 + t * 3 + 1, none⟩ = some (.bool s5) ∧ w'.cell? ⟨b1, o1 + t * 3 + 2, none⟩ = some (.slice a5 l5 c5) ∧ w'.cell? ⟨b2, o2 + t * 3 + 1, none⟩ = some (.bool s6) ∧ w'.cell? ⟨b2, o2 + t * 3 + 2, none⟩ = some (.slice a6 l6 c6) ∧ Below wq.heap.size wq w')
     ((refine ek6 x0' hpl z0' hrl e1' e2' h1l f1' f2' h2l ?_; (repeat' (first | with_reducible exact Below.refl _ _ | with_reducible assumption | with_reducible refine grow_step (by with_reducible assumption) ?_ | with_reducible refine grow_drew ?_ | with_reducible refine grow_alloc ?_ _ | with_reducible refine grow_drewN ?_ _))))
     ((go_at_call 73; refine (rcmp2_n (g5.out.below (by (repeat' (first | with_reducible exact Below.refl _ _ | with_reducible assumption | with_reducible refine grow_step (by with_reducible assumption) ?_ | with_reducible refine grow_drew ?_ | with_reducible refine grow_alloc ?_ _ | with_reducible refine grow_drewN ?_ _)))) (g6.out.below (by (repeat' (first | with_reducible exact Below.refl _ _ | with_reducible assumption | with_reducible refine grow_step (by with_reducible assumption) ?_ | with_reducible refine grow_drew ?_ | with_reducible refine grow_alloc ?_ _ | with_reducible refine grow_drewN ?_ _)))) (by omega) (by omega)).mono ?_; rintro e w7 ⟨rfl, k7⟩))
    all_goals
     have kf : RowKit.Below wq.heap.size wq w7 := by (repeat' (first | with_reducible exact Below.refl _ _ | with_reducible assumption | (go_split_ands; with_reducible assumption) | with_reducible refine grow_step (by with_reducible assumption) ?_ | with_reducible refine grow_drew ?_ | with_reducible refine grow_alloc ?_ _ | with_reducible refine grow_drewN ?_ _))
     have kg := hide (grow_step kf kq.out)
     by_cases hc0 : cmpI pz qz = 0
     ·have hnext := hide (hord.out.trans (hdrop.out.trans (by rw [if_neg (by rw [hcz.out]; simp [hc0])])))
      rw [hc0]
      go_wp2_with fail
      exact ⟨⟨t + 1, by omega, by omega, by go_num, hnext, kg.out⟩, by simp [intOf]; omega⟩
     ·have hval := hide (hans.out.trans (show ordT us vs k k2 = cmpI pz qz by
       have e1 : ordL us vs = cmpI pz qz := hord.out.trans (hdrop.out.trans (by rw [if_pos (by rw [hcz.out]; exact hc0)]; exact hcz.out))
       unfold ordT
       rw [e1, if_pos hc0]))
      generalize cmpI pz qz = cc at *
      go_wp2
      go_ret
      exact ⟨ret_int hval.out.symm, grow_step kg.out kz.out⟩
   ·have hcz : Hid (ordQ (pv, pz) (qv, qz) = cmpI pv qv ∧ cmpI pv qv ≠ 0) := (by
     have h0 : cmpI pv qv ≠ 0 := by unfold cmpI; split <;> (try split) <;> omega
     exact hide ⟨by simp [ordQ, h0], h0⟩)
    have hval : Hid (ordT us vs k k2 = cmpI pv qv) := (show _ = _ by
     have e1 : ordL us vs = cmpI pv qv := hord.out.trans (hdrop.out.trans (by rw [if_pos (by rw [hcz.out.1]; exact hcz.out.2)]; exact hcz.out.1))
     unfold ordT
     rw [e1, if_pos hcz.out.2])
    by_cases hlt : pv < qv
    ·have hv9 : Hid (ordT (nz (lays [] ps)) (nz (lays [] qs)) k k2 = -1) := (show _ = _ by rw [hans.out, hval.out]; unfold cmpI; rw [if_pos hlt])
     go_wp2_with fail
     go_quiet (fail)
     go_wp2_with fail
     go_quiet (fail)
     go_wp2
     go_ret
     exact ⟨ret_int hv9.out.symm, grow_step ((below_drewN _ _ _).trans (below_drewN _ _ _)) (grow_step kr kz.out)⟩
    ·have hv9 : Hid (ordT (nz (lays [] ps)) (nz (lays [] qs)) k k2 = 1) := (show _ = _ by rw [hans.out, hval.out]; unfold cmpI; rw [if_neg hlt, if_pos (by omega)])
     go_wp2_with fail
     go_quiet (fail)
     go_wp2_with fail
     go_quiet (fail)
     go_wp2
     go_ret
     exact ⟨ret_int hv9.out.symm, grow_step ((below_drewN _ _ _).trans (below_drewN _ _ _)) (grow_step kr kz.out)⟩
  ·have x1 := xr.c1
   have x2 := xr.c2
   have z1 := zr.c1
   have z2 := zr.c2
   have kend := hide (grow_step kr kz.out)
   have hk' := hide (hk.below kr)
   have hk3' := hide (hk3.below kr)
   clear hU hV hk hk3
   by_cases ht1 : t < n1
   ·have ht2 : ¬ t < n3 := fun h => htn ⟨ht1, h⟩
    have hne : n1 ≠ n3 := by omega
    have hval := hide (hans.out.trans (show ordT us vs k k2 = 1 by
     have e1 : ordL us vs = 1 := hord.out.trans (ordL_left (by omega) (by omega))
     unfold ordT
     rw [e1]; simp))
    have hge : ¬ n1 < n3 := by omega
    go_wp2
    go_ret
    exact ⟨ret_int hval.out.symm, kend.out⟩
   ·by_cases ht2 : t < n3
    ·have hne : n1 ≠ n3 := by omega
     have hval := hide (hans.out.trans (show ordT us vs k k2 = -1 by
      have e1 : ordL us vs = -1 := hord.out.trans (ordL_right (by omega) (by omega))
      unfold ordT
      rw [e1]; simp))
     have hlt : n1 < n3 := by omega
     go_wp2
     go_ret
     exact ⟨ret_int hval.out.symm, kend.out⟩
    ·obtain rfl : n1 = n3 := by omega
     have hval := hide (hans.out.trans (show ordT us vs k k2 = cmpI k k2 by
      have e1 : ordL us vs = 0 := hord.out.trans (ordL_both (by omega) (by omega))
      unfold ordT
      rw [e1]; simp))
     go_wp2_with fail
     refine (rcmp2_n hk'.out hk3'.out (by omega) (by omega)).mono ?_
     rintro e w7 ⟨rfl, k7⟩
     replace k7 := hide (grow_step k7 kend.out)
     go_wp2
     go_ret
     exact ⟨ret_int hval.out.symm, k7.out⟩
end Go.Proofs.YtjhhknfnaobmiaaGreatDoor

namespace Go.Proofs.YtjhhknfnaobmiaaGreatDoor
open Go.RowKit Go.Sort Go.Shelf
open Tm

theorem std_lays (ps : List (Int × Int)) : Std (nz (lays [] ps)) := std_nz (rise_lays ps (by simp [Rise]))
theorem csum_nzl (ps : List (Int × Int)) (v : Int) : csum (nz (lays [] ps)) v = csum ps v := by rw [csum_nz, csum_lays]; simp [csum]
theorem lays_eq {ps qs : List (Int × Int)} (h : Std qs) (hc : ∀ v, csum qs v = csum ps v) : qs = nz (lays [] ps) := std_unique h (std_lays ps) fun v => (hc v).trans (csum_nzl ps v).symm
theorem Pn.tb {w w' : World} {p : Nat} {ad0 : Option Addr} {n0 cp0 : Nat} {s0 : Bool} {a0 : Option Addr} {l0 c0 : Nat} {ad : Option Addr} {n : Nat} {ps : List (Int × Int)} {B : Nat} (h : Pn w ad n ps B) (y : TB w p ad0 n0 cp0 s0 a0 l0 c0) (hg : w.grownBy w' (some p)) : Pn w' ad n ps B := by
 refine ⟨h.1, ?_⟩
 rcases h.2 with h2 | ⟨b, off, e, hb, h2⟩
 ·exact .inl h2
 ·by_cases h0 : ps.length = 0
  ·exact .inl (h.1.symm.trans h0)
  ·refine .inr ⟨b, off, e, Nat.lt_of_lt_of_le hb hg.size, fun i hi => ?_⟩
   obtain ⟨s, a, l, c, e0, e1, e2, hz, hl⟩ := h2 i hi
   have hne : b ≠ p := by
    intro e
    subst e
    rw [cell_of_row w b _ _ _ (0, 0) y] at e0
    match hk : off + i * 3, e0 with
    | 0, e0 => simp at e0
    | 1, e0 => simp at e0
    | 2, e0 => simp at e0
    | k + 3, e0 => simp at e0
   have eb : w'.heap[b]? = w.heap[b]? := hg.block b hb (by simpa using hne)
   exact ⟨s, a, l, c, (World.cell?_of_block (a := ⟨b, off + i * 3, none⟩) eb).trans e0, (World.cell?_of_block (a := ⟨b, off + i * 3 + 1, none⟩) eb).trans e1, (World.cell?_of_block (a := ⟨b, off + i * 3 + 2, none⟩) eb).trans e2, hz.grownU hg (tb_noU y), hl⟩
theorem ordL_self (ps : List (Int × Int)) : ordL ps ps = 0 := by
 induction ps with
 | nil => rfl
 | cons p ps ih => simp [ordL, ordQ, cmpI_self, ih]
theorem ordT_self (ps : List (Int × Int)) (k : Int) : ordT ps ps k k = 0 := by simp [ordT, ordL_self, cmpI_self]

set_option maxRecDepth 100000 in
set_option maxHeartbeats 3200000 in
theorem same5_t {w : World} {ad : Option Addr} {n cp : Nat} {s : Bool} {a : Option Addr} {l c : Nat} {ps : List (Int × Int)} {k : Int} {ad2 : Option Addr} {n2 cp2 : Nat} {s2 : Bool} {a2 : Option Addr} {l2 c2 : Nat} {B : Nat} (hS : Std ps) (hP : Pn w ad n ps B) (hz : Zn w s a l c k) (hl : l ≤ B) (hP2 : Pn w ad2 n2 ps B) (hz2 : Zn w s2 a2 l2 c2 k) (hl2 : l2 ≤ B) (hB : B + n ≤ 268435456) (hB2 : B + n2 ≤ 268435456) :
  Calls Tryz.prog 49 #[.agg #[.slice ad n cp, .bool s, .slice a l c], .agg #[.slice ad2 n2 cp2, .bool s2, .slice a2 l2 c2]] w fun e w' => e = .returned (.bool true) ∧ Below w.heap.size w w' := by
 go_enter Tryz.func49, Tryz.ntmps49
 go_wp2_with fail
 have x := (tb_new w ad n cp s a l c).below (below_alloc _ (.cells #[.slice ad2 n2 cp2, .bool s2, .slice a2 l2 c2] 27))
 have y := tb_new (w.alloc (.cells #[.slice ad n cp, .bool s, .slice a l c] 27)) ad2 n2 cp2 s2 a2 l2 c2
 have b0 : Below w.heap.size w ((w.alloc (.cells #[.slice ad n cp, .bool s, .slice a l c] 27)).alloc (.cells #[.slice ad2 n2 cp2, .bool s2, .slice a2 l2 c2] 27)) := below_alloc' (below_alloc _ _) _
 rw [show (w.alloc (.cells #[.slice ad n cp, .bool s, .slice a l c] 27)).heap.size = w.heap.size + 1 from by simp] at y
 generalize (w.alloc (.cells #[.slice ad n cp, .bool s, .slice a l c] 27)).alloc (.cells #[.slice ad2 n2 cp2, .bool s2, .slice a2 l2 c2] 27) = wb at *
 replace hP := hP.below b0
 replace hz := hz.below b0
 replace hP2 := hP2.below b0
 replace hz2 := hz2.below b0
 generalize hp : w.heap.size = p at *
 replace b0 : Hid (Below w.heap.size w wb) := hp ▸ b0
 replace hp := hide hp
 generalize p + 1 = q at *
 obtain ⟨X, hX, hVX⟩ := pn_px hP hS
 obtain ⟨Y, hY, hVY⟩ := pn_px hP2 hS
 obtain ⟨xs, hr, hst, -⟩ := hz.stands
 obtain ⟨ys, hr2, hst2, -⟩ := hz2.stands
 replace hVX := hide hVX
 replace hVY := hide hVY
 refine (rvalid5_n hX hr hl (by omega) (by omega)).mono ?_
 rintro e w1 ⟨b1, rfl, hb1, k1⟩
 obtain rfl : b1 = true := hb1.2 ⟨hVX.out, hst⟩
 clear hb1
 replace k1 := hide k1
 have y0 := (y.below k1.out).c0
 have y1 := (y.below k1.out).c1
 have y2 := (y.below k1.out).c2
 go_wp2_with fail
 refine (rvalid5_n (hY.below k1.out) (hr2.below k1.out) hl2 (by omega) (by omega)).mono ?_
 rintro e w2 ⟨b2, rfl, hb2, k2⟩
 obtain rfl : b2 = true := hb2.2 ⟨hVY.out, hst2⟩
 clear hb2 y0 y1 y2
 replace k2 := hide (grow_step k2 k1.out)
 clear k1
 have x0 := (x.below k2.out).c0
 have x1 := (x.below k2.out).c1
 have x2 := (x.below k2.out).c2
 have y0 := (y.below k2.out).c0
 have y1 := (y.below k2.out).c1
 have y2 := (y.below k2.out).c2
 go_wp2_with fail
 refine (rorder5_n (hP.pr.below k2.out) (hz.zm.below k2.out) hl (hP2.pr.below k2.out) (hz2.zm.below k2.out) hl2 hB hB2).mono ?_
 rintro e w3 ⟨rfl, k3⟩
 rw [ordT_self]
 have kf : Hid (Below w.heap.size w w3) := b0.out.trans ((grow_step k3 k2.out).mono b0.out.size)
 clear k3
 go_wp2
 go_ret
 exact ⟨rfl, kf.out⟩

end Go.Proofs.YtjhhknfnaobmiaaGreatDoor
