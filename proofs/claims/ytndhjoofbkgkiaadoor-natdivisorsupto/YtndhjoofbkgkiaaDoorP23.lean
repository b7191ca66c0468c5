/-
 The walk of the law NatDivisors.
-/
import Derived.Test.YtndhjoofbkgkiaaDoorP22
import Derived.Deep.RegionHeld3
import Derived.Deep.DeepCutAuto
namespace Go.Proofs.YtndhjoofbkgkiaaDoor
open Go.RowKit

set_option maxRecDepth 100000 in
set_option maxHeartbeats 16000000 in
theorem natDivisors_walk {aa ab : Option Addr} {la ca lb cb : Nat} {xs ys : List Int} {w : World} (ha : Rd w aa la ca xs) (hb : Rd w ab lb cb ys) (hla : la ≤ 1048576) (hlb : lb ≤ 1048576) (htab : Tab w) :
  Calls Tryd.prog 5 #[.slice aa la ca, .slice ab lb cb] w fun e w' => e = .returned (.bool true) ∧ Below w.heap.size w w' := by
 go_enter Tryd.func5, Tryd.ntmps5
 go_wp2_with fail
 refine (lend_any ha (by omega)).mono ?_
 rintro e w1 ⟨f1, g1, F1, rfl, b1, -, -, lent1⟩
 go_wp2_with fail
 have bx := box_new lent1
 have b2 := below_alloc' b1 (.cells #[.slice (some ⟨f1, 0, none⟩) (la + 4) (la + 4), .int .i64 la, .slice (some ⟨g1, 0, none⟩) (la + 4) (la + 4)] 24)
 generalize w1.alloc (.cells #[.slice (some ⟨f1, 0, none⟩) (la + 4) (la + 4), .int .i64 la, .slice (some ⟨g1, 0, none⟩) (la + 4) (la + 4)] 24) = w2 at *
 generalize w1.heap.size = p at *
 clear b1 lent1
 refine (lend_any (hb.below b2) (by omega)).mono ?_
 rintro e w3 ⟨f2, g2, F2, rfl, b3, -, -, lent2⟩
 go_wp2_with fail
 have bY := box_new lent2
 have b4 := below_alloc' b3 (.cells #[.slice (some ⟨f2, 0, none⟩) (lb + 4) (lb + 4), .int .i64 lb, .slice (some ⟨g2, 0, none⟩) (lb + 4) (lb + 4)] 24)
 generalize w3.alloc (.cells #[.slice (some ⟨f2, 0, none⟩) (lb + 4) (lb + 4), .int .i64 lb, .slice (some ⟨g2, 0, none⟩) (lb + 4) (lb + 4)] 24) = w0 at *
 generalize w3.heap.size = q at *
 clear b3 lent2
 replace bx := bx.below b4
 have b0 := b2.trans (b4.mono b2.size)
 clear b2 b4
 have ra := ha.below b0
 have rb := hb.below b0
 have tb := htab.below b0
 clear ha hb htab
 have hn1 : (0 : Int) ≤ (la : Int) := by omega
 have hn2 : (0 : Int) ≤ (lb : Int) := by omega
 refine wp_region_noPanic ?_
 refine wp_region_held_drew (S := (fun w' => w'.cell? ⟨p, 0, none⟩ = some (.slice (some ⟨f1, 0, none⟩) (la + 4) (la + 4)) ∧ w'.cell? ⟨p, 1, none⟩ = some (.int .i64 la) ∧ w'.cell? ⟨p, 2, none⟩ = some (.slice (some ⟨g1, 0, none⟩) (la + 4) (la + 4)) ∧ w'.cell? ⟨q, 0, none⟩ = some (.slice (some ⟨f2, 0, none⟩) (lb + 4) (lb + 4)) ∧ w'.cell? ⟨q, 1, none⟩ = some (.int .i64 lb) ∧ w'.cell? ⟨q, 2, none⟩ = some (.slice (some ⟨g2, 0, none⟩) (lb + 4) (lb + 4)) ∧ Kept w0 w')) (by kernel_rfl) (by ((refine mk_S bx bY ?_; (repeat' (first | with_reducible exact Kept.refl _ | with_reducible assumption | (go_split_ands; with_reducible assumption) | with_reducible refine kept_step (by with_reducible assumption) ?_ | with_reducible refine kept_drew ?_ | with_reducible refine kept_alloc ?_ _ | with_reducible refine kept_drewN ?_ _))))) (fun hHeld => ?_)
 refine anyH_listed (l' := upTo 0 42) (by kernel_rfl) ?_
 refine natDivisors_c1 hla hlb bx bY ra rb tb (fun _ _ _ _ _ h => h) ?_ (by (repeat' (first | with_reducible exact Kept.refl _ | with_reducible assumption | (go_split_ands; with_reducible assumption) | with_reducible refine kept_step (by with_reducible assumption) ?_ | with_reducible refine kept_drew ?_ | with_reducible refine kept_alloc ?_ _ | with_reducible refine kept_drewN ?_ _))) _ _ _ _ _ _ _ _ _ _ _ _ _ _ _ _ _ _ _ _ _ _ _ _ _ _ _ _ _ _ _ _ _ _ _ _ _ _ _ _ _ _ _ _ _ _ _ _
 intros
 rename_i w' kf
 refine NoPanic.normal ?_
 go_wp2_with fail
 go_ret
 exact ⟨rfl, b0.trans (Below.mono kf b0.size)⟩
end Go.Proofs.YtndhjoofbkgkiaaDoor
