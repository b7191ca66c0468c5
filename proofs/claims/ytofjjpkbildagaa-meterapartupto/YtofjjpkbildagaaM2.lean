/-
  Layer 7: a meter's calls.
-/
import Derived.Test.YtofjjpkbildagaaM1
import Derived.Deep.RegionHeld3
namespace Go.Proofs.Ytofjjpkbildagaa
open Go.RowKit

theorem g7_alloc {w0 w : World} (h : Below w0.heap.size w0 w) (o : Obj) : Below w0.heap.size w0 (w.alloc o) := h.alloc h.size o
theorem g7_drew {w0 w : World} (h : Below w0.heap.size w0 w) : Below w0.heap.size w0 w.drew := Below.drew h
theorem g7_drewN {w0 w : World} (h : Below w0.heap.size w0 w) (n : Nat) : Below w0.heap.size w0 (w.drewN n) := h.trans ⟨rfl, rfl, rfl, Nat.le_refl _, fun _ _ => rfl⟩
theorem sk7 {w w' : World} {p : Nat} {c e : Int} (y : TL7 w p c e) (k : Below w.heap.size w w') : w'.cell? ⟨p, 0, none⟩ = some (.int .i64 c) ∧ w'.cell? ⟨p, 1, none⟩ = some (.int .i64 e) := ⟨(y.below k).c0, (y.below k).c1⟩
theorem sk7' {w w' : World} {p b : Nat} {c e : Int} {v : Value} (y : TL7 w p c e) (hne : p ≠ b) (k : Below w.heap.size w w') : (w'.setCell ⟨b, 2, none⟩ v).cell? ⟨p, 0, none⟩ = some (.int .i64 c) ∧ (w'.setCell ⟨b, 2, none⟩ v).cell? ⟨p, 1, none⟩ = some (.int .i64 e) := by
  have z : TL7 (w'.setCell ⟨b, 2, none⟩ v) p c e := ((but_setCell w' b 2 v).block p (y.below k).lt hne).trans (y.below k)
  exact ⟨z.c0, z.c1⟩

theorem load_0 {b : Nat} {n k c : Int} {w : World} (h : MB w b n k c 0) :
    Calls Try.prog 22 #[.pointer (some ⟨b, 2, none⟩)] w fun r w' => r = .returned (.int .i64 (c * 256)) ∧ w = w' := by
  have := load_n h
  rwa [Int.add_zero] at this
theorem unpacked_0 {c : Int} {w : World} (hc : 0 ≤ c) (hc2 : c ≤ 2000) :
    Calls Try.prog 21 #[.int .i64 (c * 256)] w fun r w' => r = .returned (.agg #[.int .i64 c, .int .i64 0]) ∧ Below w.heap.size w w' := by
  have := unpacked_n (w := w) hc hc2 (Int.le_refl 0) (by decide)
  rwa [Int.add_zero] at this
theorem cas_0 {b : Nat} {n k c : Int} {w : World} (h : MB w b n k c 0) (y : Int) :
    Calls Try.prog 33 #[.pointer (some ⟨b, 2, none⟩), .int .i64 (c * 256), .int .i64 y] w fun r w' => r = .returned (.bool true) ∧ w' = w.setCell ⟨b, 2, none⟩ (.int .i64 y) := by
  have := cas_n h y
  rwa [Int.add_zero] at this

set_option maxRecDepth 100000 in
set_option maxHeartbeats 1600000 in
/-- what was crossed is answered -/
theorem change_over {w : World} {b : Nat} {n k c e : Int} {v : Value} (h : MB w b n k c e) (hc : 0 ≤ c) (hc2 : c ≤ 2000) (he : 0 < e) (he2 : e < 256) :
    Calls Try.prog 23 #[.pointer (some ⟨b, 0, none⟩), v] w fun r w' => r = .returned (.int .i64 e) ∧ Below w.heap.size w w' := by
  go_enter Try.func23, Try.ntmps23
  go_wp2_with fail
  go_loopw [] (fun wr => w = wr) (fun _ => 0)
  case atStart => rfl
  case round =>
    subst hrel
    go_wp2_with fail
    refine (load_n h).mono ?_
    rintro x w1 ⟨rfl, rfl⟩
    go_wp2_with fail
    refine (unpacked_n hc hc2 (by omega) he2).mono ?_
    rintro x w1 ⟨rfl, k1⟩
    have hne : (e == 0) = false := by rw [beq_eq_false_iff_ne]; omega
    have k2 := hide (step7 (below_alloc7 w1 (.cells #[.int .i64 c, .int .i64 e] 61)) k1)
    go_wp2_with fail
    go_ret
    exact ⟨rfl, k2.out⟩

set_option maxRecDepth 100000 in
set_option maxHeartbeats 1600000 in
/-- else the call is done as a whole -/
theorem change_go {w : World} {b kf : Nat} {n k c c' e' r : Int} {lb : Array Value} (eg : ∀ args w, (callFunc kf args).run Try.prog w = .ok (.enter kf args) w)
    (hf : ∀ w', Below w.heap.size w w' → Calls Try.prog kf (#[.agg #[.int .i64 c, .int .i64 0]] ++ lb) w' fun x w'' => x = .returned (.tuple #[.agg #[.int .i64 c', .int .i64 e'], .int .i64 r]) ∧ Below w'.heap.size w' w'')
    (h : MB w b n k c 0) (hc : 0 ≤ c) (hc2 : c ≤ 2000) (hd : 0 ≤ c') (hd2 : c' ≤ 2000) (he : 0 ≤ e') (he2 : e' < 256) :
    Calls Try.prog 23 #[.pointer (some ⟨b, 0, none⟩), .func (.func kf) #[] lb] w fun x w' => x = .returned (.int .i64 r) ∧ MB w' b n k c' e' ∧ But b w w' := by
  go_enter Try.func23, Try.ntmps23
  go_wp2_with fail
  have hf2 := hide hf
  clear hf
  go_loopw [] (fun wr => w = wr) (fun _ => 0)
  case atStart => rfl
  case round =>
    subst hrel
    go_wp2_with fail
    refine (load_0 h).mono ?_
    rintro x w1 ⟨rfl, rfl⟩
    go_wp2_with fail
    refine (unpacked_0 hc hc2).mono ?_
    rintro x w1 ⟨rfl, k1⟩
    have k2 := hide (step7 (below_alloc7 w1 (.cells #[.int .i64 c, .int .i64 0] 61)) k1)
    go_wp2_with fail
    refine (hf2.out _ k2.out).mono ?_
    rintro x w3 ⟨rfl, k3⟩
    have k4 := hide (step7 k3 k2.out)
    have y := TL7.new w3 c' e'
    have k5 := hide (step7 (below_alloc7 w3 (.cells #[.int .i64 c', .int .i64 e'] 61)) k4.out)
    clear k1 k2 k3
    have hne : w3.heap.size ≠ b := by have h1 := h.lt; have h2 := k4.out.size; omega
    have h5 := h.below k5.out
    go_wp2_with fail
    generalize w3.heap.size = p at *
    generalize w3.alloc (.cells #[.int .i64 c', .int .i64 e'] 61) = w5 at *
    go_region_held3 (fun w' => w'.cell? ⟨p, 0, none⟩ = some (.int .i64 c') ∧ w'.cell? ⟨p, 1, none⟩ = some (.int .i64 e'))
      ((first | (refine sk7' y hne ?_; (repeat' (first | with_reducible exact Below.refl _ _ | with_reducible assumption | with_reducible refine step7 (by with_reducible assumption) ?_ | with_reducible refine g7_drew ?_ | with_reducible refine g7_alloc ?_ _ | with_reducible refine g7_drewN ?_ _))) | (refine sk7 y ?_; (repeat' (first | with_reducible exact Below.refl _ _ | with_reducible assumption | with_reducible refine step7 (by with_reducible assumption) ?_ | with_reducible refine g7_drew ?_ | with_reducible refine g7_alloc ?_ _ | with_reducible refine g7_drewN ?_ _)))))
      (first | (go_at_call 34; with_reducible refine (packed_n hd hd2 he he2).mono ?_; rintro x w6 ⟨rfl, hg⟩) | (go_at_call 33; with_reducible refine (cas_0 (MB.below h5 (by (repeat' (first | with_reducible exact Below.refl _ _ | with_reducible assumption | with_reducible refine step7 (by with_reducible assumption) ?_ | with_reducible refine g7_drew ?_ | with_reducible refine g7_alloc ?_ _ | with_reducible refine g7_drewN ?_ _)))) _).mono ?_; rintro x w7 ⟨rfl, rfl⟩))
    have k6 : Below w5.heap.size w5 w6 := (by (repeat' (first | with_reducible exact Below.refl _ _ | with_reducible assumption | with_reducible refine step7 (by with_reducible assumption) ?_ | with_reducible refine g7_drew ?_ | with_reducible refine g7_alloc ?_ _ | with_reducible refine g7_drewN ?_ _)))
    have h6 := hide ((h5.below k6).set c' e')
    have b6 := hide ((Below.but (step7 k6 k5.out) b).trans (but_setCell w6 b 2 (.int .i64 (c' * 256 + e'))))
    go_wp2
    go_ret
    exact ⟨rfl, h6.out, b6.out⟩

/-- a variable of one cell in a block of its own -/
def BX (w : World) (b : Nat) (v : Value) (t : TypeId) : Prop := w.heap[b]? = some (.cells #[v] t (0, 0))
namespace BX
variable {w w' : World} {b : Nat} {v : Value} {t : TypeId}
theorem lt (h : BX w b v t) : b < w.heap.size := lt_of_block h
theorem c0 (h : BX w b v t) : w.cell? ⟨b, 0, none⟩ = some v := cell_of_row w b 0 _ _ (0, 0) h
theorem below (h : BX w b v t) (hb : Below w.heap.size w w') : BX w' b v t := (hb.block b h.lt).trans h
theorem new (w : World) (v : Value) (t : TypeId) : BX (w.alloc (.cells #[v] t)) w.heap.size v t := heap_alloc_new w _
end BX

theorem sk7b {w w' : World} {p bn bm b r : Nat} {c e n k c2 e2 : Int} {v1 v2 : Value} {t1 t2 : TypeId} (y : TL7 w p c e) (h : MB w b n k c2 e2) (x1 : BX w bn v1 t1) (x2 : BX w bm v2 t2) (hp : p ≠ r) (hb : b ≠ r) (h1 : bn ≠ r) (h2 : bm ≠ r) (g : But r w w') :
    w'.cell? ⟨p, 0, none⟩ = some (.int .i64 c) ∧ w'.cell? ⟨p, 1, none⟩ = some (.int .i64 e) ∧ w'.cell? ⟨b, 0, none⟩ = some (.int .i64 n) ∧ w'.cell? ⟨bn, 0, none⟩ = some v1 ∧ w'.cell? ⟨bm, 0, none⟩ = some v2 := by
  have y' : TL7 w' p c e := (g.block p y.lt hp).trans y
  have x1' : BX w' bn v1 t1 := (g.block bn x1.lt h1).trans x1
  have x2' : BX w' bm v2 t2 := (g.block bm x2.lt h2).trans x2
  exact ⟨y'.c0, y'.c1, (h.but g hb).c0, x1'.c0, x2'.c0⟩

theorem count_n {c nn n : Int} {w : World} (hc : 0 ≤ c) (hcn : c ≤ n) (hn : n ≤ 2000) (h0 : 0 ≤ nn) :
    Calls Try.prog 25 #[.agg #[.int .i64 c, .int .i64 0], .int .i64 nn, .int .i64 n] w fun r w' => r = .returned (.tuple #[.agg #[.int .i64 (if n - c < nn then c else c + nn), .int .i64 (if n - c < nn then 70 else 0)], .int .i64 (if n - c < nn then 70 else 0)]) ∧ Below w.heap.size w w' := by
  by_cases h : n - c < nn
  · rw [if_pos h, if_pos h]; exact count_no hc hcn hn h
  · rw [if_neg h, if_neg h]; exact count_yes hc hcn hn h0 (by omega)

set_option maxRecDepth 100000 in
set_option maxHeartbeats 1600000 in
theorem spend1_neg {w : World} {bn bm : Nat} {c nn : Int} (hx : BX w bn (.int .i64 nn) 3) (h1 : nn < 0) :
    Calls Try.prog 24 (#[.agg #[.int .i64 c, .int .i64 0]] ++ #[.pointer (some ⟨bn, 0, none⟩), .pointer (some ⟨bm, 0, none⟩)]) w fun x w' =>
      x = .returned (.tuple #[.agg #[.int .i64 c, .int .i64 0], .int .i64 1]) ∧ Below w.heap.size w w' := by
  show Calls Try.prog 24 #[.agg #[.int .i64 c, .int .i64 0], .pointer (some ⟨bn, 0, none⟩), .pointer (some ⟨bm, 0, none⟩)] w _
  have x0 := hx.c0
  have x1 := hx.lt
  have hk := hide (step7 (below_alloc7 (w.alloc (.cells #[.int .i64 c, .int .i64 0] 61)) (.cells #[.int .i64 c, .int .i64 0] 61)) (below_alloc7 w _))
  have hy := hide (TL7.new (w.alloc (.cells #[.int .i64 c, .int .i64 0] 61)) c 0)
  rw [show (w.alloc (.cells #[.int .i64 c, .int .i64 0] 61)).heap.size = w.heap.size + 1 from by simp] at hy
  go_enter Try.func24, Try.ntmps24
  go_wp2
  refine bodyPost_ret (results_ct7 rfl _ _ (w.heap.size + 1) 61 _ (0, 0) _ rfl hy.out Try.underlying61 rfl (by kernel_rfl)) rfl ?_
  exact ⟨rfl, hk.out⟩

set_option maxRecDepth 100000 in
set_option maxHeartbeats 1600000 in
theorem spend1_n {w : World} {bn bm b : Nat} {n k c c2 e nn : Int} (h : MB w b n k c2 e) (hc : 0 ≤ c) (hcn : c ≤ n) (hn : n ≤ 2000) (hx : BX w bn (.int .i64 nn) 3) (hm : BX w bm (.pointer (some ⟨b, 0, none⟩)) 22) (h1 : 0 ≤ nn) :
    Calls Try.prog 24 (#[.agg #[.int .i64 c, .int .i64 0]] ++ #[.pointer (some ⟨bn, 0, none⟩), .pointer (some ⟨bm, 0, none⟩)]) w fun x w' =>
      x = .returned (.tuple #[.agg #[.int .i64 (if n - c < nn then c else c + nn), .int .i64 (if n - c < nn then 70 else 0)], .int .i64 (if n - c < nn then 70 else 0)]) ∧ Below w.heap.size w w' := by
  show Calls Try.prog 24 #[.agg #[.int .i64 c, .int .i64 0], .pointer (some ⟨bn, 0, none⟩), .pointer (some ⟨bm, 0, none⟩)] w _
  generalize hr1 : (if n - c < nn then c else c + nn) = r1
  generalize hr2 : (if n - c < nn then (70 : Int) else 0) = r2
  replace hr1 := hide hr1
  replace hr2 := hide hr2
  have x0 := hx.c0
  have x1 := hx.lt
  have b0 := step7 (below_alloc7 (w.alloc (.cells #[.int .i64 c, .int .i64 0] 61)) (.cells #[.int .i64 0, .int .i64 0] 61)) (below_alloc7 w _)
  have x := (TL7.new w c 0).below (below_alloc7 _ (.cells #[.int .i64 0, .int .i64 0] 61))
  have y := TL7.new (w.alloc (.cells #[.int .i64 c, .int .i64 0] 61)) 0 0
  rw [show (w.alloc (.cells #[.int .i64 c, .int .i64 0] 61)).heap.size = w.heap.size + 1 from by simp] at y
  have hb := h.below b0
  have hxb := hx.below b0
  have hmb := hm.below b0
  have hxx := hide (And.intro x y)
  have hbb := hide (And.intro b0 (And.intro hb (And.intro hxb hmb)))
  clear x y hb hxb hmb b0
  go_enter Try.func24, Try.ntmps24
  go_wp2_with fail
  obtain ⟨x, y⟩ := hxx.out
  obtain ⟨b0, hb, hxb, hmb⟩ := hbb.out
  have m1 := hx.lt
  have m2 := hm.lt
  have m3 := h.lt
  clear hxx hbb x0 x1 hx hm h
  have n1 : w.heap.size ≠ w.heap.size + 1 := by omega
  have n2 : b ≠ w.heap.size + 1 := by omega
  have n3 : bn ≠ w.heap.size + 1 := by omega
  have n4 : bm ≠ w.heap.size + 1 := by omega
  clear m1 m2 m3
  generalize (w.alloc (.cells #[.int .i64 c, .int .i64 0] 61)).alloc (.cells #[.int .i64 0, .int .i64 0] 61) = wb at *
  have hr : w.heap.size ≤ w.heap.size + 1 := by omega
  generalize w.heap.size + 1 = r at *
  generalize hp : w.heap.size = p at *
  replace hp := hide hp
  have x0 := x.c0
  have x1 := x.c1
  have y0 := hb.c0
  have q0 := hxb.c0
  have q1 := hmb.c0
  go_region_with (go_at_call 25; with_reducible refine (count_n hc hcn hn h1).mono ?_; rintro x w6 ⟨rfl, hg⟩; rw [hr1.out, hr2.out]; have z0 := (TL7.below y (show Below wb.heap.size wb w6 by (repeat' (first | with_reducible exact Below.refl _ _ | with_reducible assumption | with_reducible refine step7 (by with_reducible assumption) ?_ | with_reducible refine g7_drew ?_ | with_reducible refine g7_alloc ?_ _ | with_reducible refine g7_drewN ?_ _)))).c0; have z1 := (TL7.below y (show Below wb.heap.size wb w6 by (repeat' (first | with_reducible exact Below.refl _ _ | with_reducible assumption | with_reducible refine step7 (by with_reducible assumption) ?_ | with_reducible refine g7_drew ?_ | with_reducible refine g7_alloc ?_ _ | with_reducible refine g7_drewN ?_ _)))).c1; have z2 := (TL7.below y (show Below wb.heap.size wb w6 by (repeat' (first | with_reducible exact Below.refl _ _ | with_reducible assumption | with_reducible refine step7 (by with_reducible assumption) ?_ | with_reducible refine g7_drew ?_ | with_reducible refine g7_alloc ?_ _ | with_reducible refine g7_drewN ?_ _)))).f 0; have z3 := (TL7.below y (show Below wb.heap.size wb w6 by (repeat' (first | with_reducible exact Below.refl _ _ | with_reducible assumption | with_reducible refine step7 (by with_reducible assumption) ?_ | with_reducible refine g7_drew ?_ | with_reducible refine g7_alloc ?_ _ | with_reducible refine g7_drewN ?_ _)))).f 1)
  all_goals
    have k6 : Below wb.heap.size wb w6 := (by (repeat' (first | with_reducible exact Below.refl _ _ | with_reducible assumption | with_reducible refine step7 (by with_reducible assumption) ?_ | with_reducible refine g7_drew ?_ | with_reducible refine g7_alloc ?_ _ | with_reducible refine g7_drewN ?_ _)))
    have kf := hide (((b0.trans (k6.mono (hp.out ▸ b0.size))).setCell (p := ⟨r, 0, none⟩) hr (.int .i64 r1)).setCell (p := ⟨r, 1, none⟩) hr (.int .i64 r2))
    have yf := hide ((y.below k6).set r1 r2)
    clear b0 hg
    go_wp2
    refine bodyPost_ret (results_ct7 rfl _ _ r 61 _ (0, 0) _ rfl yf.out Try.underlying61 rfl (by kernel_rfl)) rfl ?_
    exact ⟨rfl, hp.out ▸ kf.out⟩

end Go.Proofs.Ytofjjpkbildagaa
