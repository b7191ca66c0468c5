/-
  Layer 7: Node of a meter, whole.
-/
import Derived.Test.YtofjjpkbildagaaM6
namespace Go.Proofs.Ytofjjpkbildagaa
open Go.RowKit Mt

set_option maxRecDepth 100000 in
set_option maxHeartbeats 3200000 in
theorem node_n {w : World} {b : Nat} {n k c : Int} {ad : Option Addr} {m cp : Nat} {L : List (Bool × List Int)} {B : Nat} (h : MB w b n k c 0) (hL : NL w ad m L B) (hB : B ≤ 1048576) (hm : m ≤ 1048576) (hc : 0 ≤ c) (hcn : c ≤ n) (hn : n ≤ 2000) :
    Calls Try.prog 16 #[.pointer (some ⟨b, 0, none⟩), .slice ad m cp] w fun x w' => x = .returned (.int .i64 (if L.any (isl k) then 71 else if n - c < 1 then 70 else 0)) ∧ MB w' b n k (if L.any (isl k) then c else if n - c < 1 then c else c + 1) (if L.any (isl k) then 71 else if n - c < 1 then 70 else 0) ∧ But b w w' := by
  have b0 := below_alloc7 w (.cells #[.pointer (some ⟨b, 0, none⟩)] 22)
  have x := BX.new w (.pointer (some ⟨b, 0, none⟩)) 22
  have HH := hide (And.intro b0 (And.intro x (And.intro (h.below b0) (hL.below b0))))
  clear b0 x
  cases hany : L.any (isl k) with
  | true =>
    simp only [if_true]
    replace hany := hide hany
    go_enter Try.func16, Try.ntmps16
    go_wp2_with fail
    obtain ⟨b0, x, hb, hLb⟩ := HH.out
    clear HH
    refine (contains_n hb hLb hB hm).mono ?_
    rintro v w1 ⟨rfl, k1⟩
    rw [hany.out]
    have b1 := step7 k1 b0
    have x1 := x.below k1
    have h1 := hb.below k1
    clear b0 x hb hLb k1
    have y := BX.new w1 (.bool true) 4
    have b2 := below_alloc7 w1 (.cells #[.bool true] 4)
    have HH2 := hide (And.intro (step7 b2 b1) (And.intro y (And.intro (x1.below b2) (h1.below b2))))
    have z0 := x1.c0
    have z1 := x1.lt
    clear b1 b2 x1 h1 y
    go_wp2_with fail
    obtain ⟨b0, y, x, hb⟩ := HH2.out
    clear HH2
    refine (change_go (c' := c) (e' := 71) (r := 71) (fun _ _ => rfl) (fun w' hw => node1_long (y.below hw)) hb hc (by omega) hc (by omega) (by decide) (by decide)).mono ?_
    rintro v w' ⟨rfl, m1, k1⟩
    have kf := hide (And.intro m1 ((Below.but b0 b).trans k1))
    clear m1 k1 b0
    go_wp2
    go_ret
    exact ⟨rfl, kf.out.1, kf.out.2⟩
  | false =>
    simp only [Bool.false_eq_true, if_false]
    generalize hr1 : (if n - c < 1 then c else c + 1) = r1
    generalize hr2 : (if n - c < 1 then (70 : Int) else 0) = r2
    replace hr1 := hide hr1
    replace hr2 := hide hr2
    replace hany := hide hany
    go_enter Try.func16, Try.ntmps16
    go_wp2_with fail
    obtain ⟨b0, x, hb, hLb⟩ := HH.out
    clear HH
    refine (contains_n hb hLb hB hm).mono ?_
    rintro v w1 ⟨rfl, k1⟩
    rw [hany.out]
    have b1 := step7 k1 b0
    have x1 := x.below k1
    have h1 := hb.below k1
    clear b0 x hb hLb k1
    have y := BX.new w1 (.bool false) 4
    have b2 := below_alloc7 w1 (.cells #[.bool false] 4)
    have HH2 := hide (And.intro (step7 b2 b1) (And.intro y (And.intro (x1.below b2) (h1.below b2))))
    have z0 := x1.c0
    have z1 := x1.lt
    clear b1 b2 x1 h1 y
    go_wp2_with fail
    obtain ⟨b0, y, x, hb⟩ := HH2.out
    clear HH2
    refine (change_go (c' := if n - c < 1 then c else c + 1) (e' := if n - c < 1 then 70 else 0) (r := if n - c < 1 then 70 else 0) (fun _ _ => rfl) (fun w' hw => node1_n (hb.below hw) hc hcn hn (y.below hw) (x.below hw)) hb hc (by omega) (by split <;> omega) (by split <;> omega) (by split <;> decide) (by split <;> decide)).mono ?_
    rw [hr1.out, hr2.out]
    rintro v w' ⟨rfl, m1, k1⟩
    have kf := hide (And.intro m1 ((Below.but b0 b).trans k1))
    clear m1 k1 b0
    go_wp2
    go_ret
    exact ⟨rfl, kf.out.1, kf.out.2⟩

set_option maxRecDepth 100000 in
set_option maxHeartbeats 3200000 in
theorem node_over {w : World} {b : Nat} {n k c e : Int} {ad : Option Addr} {m cp : Nat} {L : List (Bool × List Int)} {B : Nat} (h : MB w b n k c e) (hL : NL w ad m L B) (hB : B ≤ 1048576) (hm : m ≤ 1048576) (hc : 0 ≤ c) (hcn : c ≤ 2000) (he : 0 < e) (he2 : e < 256) :
    Calls Try.prog 16 #[.pointer (some ⟨b, 0, none⟩), .slice ad m cp] w fun x w' => x = .returned (.int .i64 e) ∧ Below w.heap.size w w' := by
  have b0 := below_alloc7 w (.cells #[.pointer (some ⟨b, 0, none⟩)] 22)
  have x := BX.new w (.pointer (some ⟨b, 0, none⟩)) 22
  have HH := hide (And.intro b0 (And.intro x (And.intro (h.below b0) (hL.below b0))))
  clear b0 x
  generalize hv : L.any (isl k) = v
  replace hv := hide hv
  go_enter Try.func16, Try.ntmps16
  go_wp2_with fail
  obtain ⟨b0, x, hb, hLb⟩ := HH.out
  clear HH
  refine (contains_n hb hLb hB hm).mono ?_
  rintro v w1 ⟨rfl, k1⟩
  rw [hv.out]
  have b1 := step7 k1 b0
  have x1 := x.below k1
  have h1 := hb.below k1
  clear b0 x hb hLb k1
  have b2 := below_alloc7 w1 (.cells #[.bool v] 4)
  have HH2 := hide (And.intro (step7 b2 b1) (And.intro (x1.below b2) (h1.below b2)))
  have z0 := x1.c0
  have z1 := x1.lt
  clear b1 b2 x1 h1
  go_wp2_with fail
  obtain ⟨b0, x, hb⟩ := HH2.out
  clear HH2
  refine (change_over hb hc hcn he he2).mono ?_
  rintro v w' ⟨rfl, k1⟩
  have kf := hide (step7 k1 b0)
  clear k1 b0
  go_wp2
  go_ret
  exact ⟨rfl, kf.out⟩
end Go.Proofs.Ytofjjpkbildagaa
