/-
  The law TermEvals: its walk.
-/
import Derived.Test.YtpjngmllbkcclaaJ3
import Derived.Test.YtpjngmllbkcclaaYG
namespace Go.Proofs.Ytpjngmllbkcclaa
open Go.RowKit Go.Sort Go.Shelf
open Tm

set_option maxRecDepth 100000 in
set_option maxHeartbeats 6400000 in
theorem termEvals_walk {w : World} {ad : Option Addr} {n cp : Nat} {s : Bool} {a : Option Addr} {l c : Nat} {ps : List (Int × Int)} {k : Int} {ad3 : Option Addr} {n3 cp3 : Nat} {vs : List (Int × Int)} {B : Nat}
    (hP : Pr w ad n ps B) (hz : Zm w s a l c k) (hl : l ≤ B) (hn : n ≤ B) (hV : Pr w ad3 n3 vs B) (hn3 : n3 ≤ B) (hB : B ≤ 1048576) :
    Calls Try.prog 6 #[.agg #[.slice ad n cp, .bool s, .slice a l c], .slice ad3 n3 cp3] w fun e w' => e = .returned (.bool true) ∧ Below w.heap.size w w' := by
  go_enter Try.func6, Try.ntmps6
  go_wp2_with fail
  have x := tb_new w ad n cp s a l c
  have b0 : Below w.heap.size w (w.alloc (.cells #[.slice ad n cp, .bool s, .slice a l c] 27)) := below_alloc _ _
  generalize w.alloc (.cells #[.slice ad n cp, .bool s, .slice a l c] 27) = wb at *
  replace hP := hP.below b0
  replace hz := hz.below b0
  replace hV := hV.below b0
  generalize hp : w.heap.size = p0 at *
  replace b0 : Hid (Below w.heap.size w wb) := hp ▸ b0
  replace hp := hide hp
  refine (awake5 wb).mono ?_
  rintro e w1 ⟨rfl, k1⟩
  replace k1 := hide k1
  have fx0 := (x.below k1.out).c0
  have fx1 := (x.below k1.out).c1
  have fx2 := (x.below k1.out).c2
  have fxl := (x.below k1.out).lt
  go_wp2_with fail
  refine (eval_n (hP.below k1.out) (hz.below k1.out) hl (hV.below k1.out) (by omega)).mono ?_
  rintro e w2 ⟨sx, ax, lx, cx, ex, rfl, kE, hEx⟩
  clear fx0 fx1 fx2 fxl
  have k2' := hide (grow_step kE k1.out)
  clear kE k1
  have bx := zb_new w2 sx ax lx cx
  have kx := hide (grow_alloc k2'.out (.cells #[.bool sx, .slice ax lx cx] 25))
  have gx0 := (x.below kx.out).c0
  have gx1 := (x.below kx.out).c1
  have gx2 := (x.below kx.out).c2
  have gxl := (x.below k2'.out).lt
  go_wp2_with fail
  refine (reval_n (hP.below kx.out) (hz.below kx.out) hl (hV.below kx.out) (by omega)).mono ?_
  rintro e w3 ⟨sy, ay, ly, cy, ey, rfl, kF, hFy⟩
  have both : ex = ey ∧ ∃ z, Zn w3 sx ax lx cx z ∧ Zn w3 sy ay ly cy z ∧ lx ≤ 1099511627776 ∧ ly ≤ 1099511627776 := by
    rcases hEx with ⟨t1, e1, e2, e3, e4, e5⟩ | ⟨t1, e1, h1, h2⟩
    · rcases hFy with ⟨t2, f1, f2, f3, f4, f5⟩ | ⟨t2, _⟩
      · subst e2 e3 e4 e5 f2 f3 f4 f5
        exact ⟨e1.trans f1.symm, 0, zn_zero _, zn_zero _, by omega, by omega⟩
      · exact absurd t2 t1
    · rcases hFy with ⟨t2, _⟩ | ⟨t2, f1, h3, h4⟩
      · exact absurd t1 t2
      · exact ⟨e1.trans f1.symm, _, (h1.below (below_alloc _ _)).below kF, h3, by omega, by omega⟩
  obtain ⟨rfl, z, hzx, hzy, hlx, hly⟩ := both
  clear hEx hFy gx0 gx1 gx2 gxl
  have k3 := hide (grow_step kF kx.out)
  have bx3 := bx.below kF
  clear kF kx k2' bx
  have by3 := zb_new w3 sy ay ly cy
  have ka := below_alloc w3 (.cells #[.bool sy, .slice ay ly cy] 25)
  have bx4 := bx3.below ka
  have hzx4 := hzx.below ka
  have hzy4 := hzy.below ka
  have k4 := hide (grow_step ka k3.out)
  clear ka bx3 hzx hzy k3
  have m0 := bx4.c0
  have m1 := bx4.c1
  have m2 := by3.c0
  have m3 := by3.c1
  go_wp2_with fail
  refine (ris_t hzx4 hzy4.zm hlx hly rfl).mono ?_
  rintro e w5 ⟨rfl, k5⟩
  have k6 : Hid (Below w.heap.size w w5) := b0.out.trans ((grow_step k5 k4.out).mono b0.out.size)
  clear k5
  go_wp2
  go_ret
  exact ⟨rfl, k6.out⟩
end Go.Proofs.Ytpjngmllbkcclaa
