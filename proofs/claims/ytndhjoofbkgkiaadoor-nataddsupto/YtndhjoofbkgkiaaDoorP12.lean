/-
 Several texts in one: QAdds, LAdds.
-/
import Derived.Test.YtndhjoofbkgkiaaDoorP10
import Derived.Deep.RegionHeld3
import Derived.Deep.DeepCutAuto
namespace Go.Proofs.YtndhjoofbkgkiaaDoor
open Go.RowKit

/-- the code from the region of that number on -/
def isRegion (n : Nat) : Code → Bool
 | .region m _ _ => m == n
 | _ => false
def fromRegion (n : Nat) : Code → Option Code
 | .seq a b => if isRegion n a then some (.seq a b) else match fromRegion n a with
  | some c => some c
  | none => fromRegion n b
 | .cond _ a b => match fromRegion n a with
  | some c => some c
  | none => fromRegion n b
 | .block _ c => fromRegion n c
 | .scope c => fromRegion n c
 | .loop c => fromRegion n c
 | _ => none
def natAddsTailAt (f : Func) : Code := (f.body.bind (fromRegion 10)).getD .skip

set_option maxRecDepth 100000 in
set_option maxHeartbeats 3200000 in
theorem natAdds_rest {aa ab : Option Addr} {la ca lb cb : Nat} {xs ys : List Int} {w w0 wc : World} {p q f1 g1 f2 g2 : Nat} {F1 F2 : List Int} {c er : Int} {ad : Option Addr} {len cap : Nat} {u4 u10 u11 u12 u13 u14 u15 u16 u17 u18 u19 u20 u21 u22 u23 u24 u25 u26 u27 u28 u29 u30 u31 u32 u33 u34 u35 u36 u37 u38 u39 u40 u41 u42 u43 u44 u45 u46 u47 u48 u49 u50 u51 u52 u53 u54 u55 u56 u57 u58 u59 u60 u61 u62 u63 u64 u65 u66 u67 u68 u69 u70 u71 u72 u73 u74 u75 u76 u77 u78 u79 u80 u81 u82 u83 : Value}
  (hla : la ≤ 1048576) (hlb : lb ≤ 1048576) (bx : Box w0 p f1 g1 la xs F1) (bY : Box w0 q f2 g2 lb ys F2) (b0 : Below w.heap.size w w0) (ra : Rd w0 aa la ca xs) (rb : Rd w0 ab lb cb ys) (tb : Tab w0) (hc : Hid (cmpI (val xs) (val ys) = c)) (hcut : Kept w0 wc) :
  Code.wp Tryd.prog (natAddsTailAt Tryd.f3) (bodyPost Tryd.prog Tryd.f3 fun e w' => e = .returned (.bool true) ∧ Below w.heap.size w w') ⟨#[.slice aa la ca, .slice ab lb cb, undef, undef, u4, .pointer (some ⟨p, 0, none⟩), .pointer (some ⟨q, 0, none⟩), .int .i64 c, .slice ad len cap, .int .i64 er, u10, u11, u12, u13, u14, u15, u16, u17, u18, u19, u20, u21, u22, u23, u24, u25, u26, u27, u28, u29, u30, u31, u32, u33, u34, u35, u36, u37, u38, u39, u40, u41, u42, u43, u44, u45, u46, u47, u48, u49, u50, u51, u52, u53, u54, u55, u56, u57, u58, u59, u60, u61, u62, u63, u64, u65, u66, u67, u68, u69, u70, u71, u72, u73, u74, u75, u76, u77, u78, u79, u80, u81, u82, u83], []⟩ wc := by
 have hn1 : (0 : Int) ≤ (la : Int) := by omega
 have hn2 : (0 : Int) ≤ (lb : Int) := by omega
 conv => arg 2; whnf
 go_wp2_with fail
 go_region_held3 (fun w' => w'.cell? ⟨p, 0, none⟩ = some (.slice (some ⟨f1, 0, none⟩) (la + 4) (la + 4)) ∧ w'.cell? ⟨p, 1, none⟩ = some (.int .i64 la) ∧ w'.cell? ⟨p, 2, none⟩ = some (.slice (some ⟨g1, 0, none⟩) (la + 4) (la + 4)) ∧ w'.cell? ⟨q, 0, none⟩ = some (.slice (some ⟨f2, 0, none⟩) (lb + 4) (lb + 4)) ∧ w'.cell? ⟨q, 1, none⟩ = some (.int .i64 lb) ∧ w'.cell? ⟨q, 2, none⟩ = some (.slice (some ⟨g2, 0, none⟩) (lb + 4) (lb + 4)) ∧ Kept w0 w')
  ((refine mk_S bx bY ?_; (repeat' (first | with_reducible exact Kept.refl _ | with_reducible assumption | (go_split_ands; with_reducible assumption) | with_reducible refine kept_step (by with_reducible assumption) ?_ | with_reducible refine kept_drew ?_ | with_reducible refine kept_alloc ?_ _ | with_reducible refine kept_drewN ?_ _))))
  (first | (go_at_call 10; refine (list_any (by omega)).mono ?_; rintro e w' ⟨rfl, hg⟩) | (go_at_call 13; refine (cmp_S bx bY (by (repeat' (first | with_reducible exact Kept.refl _ | with_reducible assumption | (go_split_ands; with_reducible assumption) | with_reducible refine kept_step (by with_reducible assumption) ?_ | with_reducible refine kept_drew ?_ | with_reducible refine kept_alloc ?_ _ | with_reducible refine kept_drewN ?_ _))) (unhide hc)).mono ?_; rintro e w' ⟨rfl, hg⟩) | (go_at_call 14; first | (with_reducible refine (add_S bx bY (by (repeat' (first | with_reducible exact Kept.refl _ | with_reducible assumption | (go_split_ands; with_reducible assumption) | with_reducible refine kept_step (by with_reducible assumption) ?_ | with_reducible refine kept_drew ?_ | with_reducible refine kept_alloc ?_ _ | with_reducible refine kept_drewN ?_ _)))).mono ?_; rintro e w' ⟨ad, len, cap, zs, rfl, ho, hcn, hv, hg⟩) | (with_reducible refine (add_S bx bx (by (repeat' (first | with_reducible exact Kept.refl _ | with_reducible assumption | (go_split_ands; with_reducible assumption) | with_reducible refine kept_step (by with_reducible assumption) ?_ | with_reducible refine kept_drew ?_ | with_reducible refine kept_alloc ?_ _ | with_reducible refine kept_drewN ?_ _)))).mono ?_; rintro e w' ⟨ad, len, cap, zs, rfl, ho, hcn, hv, hg⟩)) | (go_at_call 15; first | (with_reducible refine (refadd_S ra rb hla hlb (by (repeat' (first | with_reducible exact Kept.refl _ | with_reducible assumption | (go_split_ands; with_reducible assumption) | with_reducible refine kept_step (by with_reducible assumption) ?_ | with_reducible refine kept_drew ?_ | with_reducible refine kept_alloc ?_ _ | with_reducible refine kept_drewN ?_ _)))).mono ?_; rintro e w' ⟨ad, len, cap, zs, rfl, ho, hcn, hv, hg⟩) | (with_reducible refine (refadd_S ra ra hla hla (by (repeat' (first | with_reducible exact Kept.refl _ | with_reducible assumption | (go_split_ands; with_reducible assumption) | with_reducible refine kept_step (by with_reducible assumption) ?_ | with_reducible refine kept_drew ?_ | with_reducible refine kept_alloc ?_ _ | with_reducible refine kept_drewN ?_ _)))).mono ?_; rintro e w' ⟨ad, len, cap, zs, rfl, ho, hcn, hv, hg⟩)) | (go_at_call 11; refine (is_two (w0 := w0) (by assumption) (by assumption) (by assumption) ?_ (by assumption) (by assumption) (by assumption) ?_ ?_ ?_ ?_ (by decide)).mono ?_; (all_goals (try ((repeat' (first | with_reducible exact Below.refl _ _ | with_reducible assumption | with_reducible refine grow_step (by with_reducible assumption) ?_ | with_reducible refine grow_drew ?_ | with_reducible refine grow_alloc ?_ _ | with_reducible refine grow_drewN ?_ _)); done))); (all_goals (try ((repeat' (first | with_reducible exact Kept.refl _ | with_reducible assumption | (go_split_ands; with_reducible assumption) | with_reducible refine kept_step (by with_reducible assumption) ?_ | with_reducible refine kept_drew ?_ | with_reducible refine kept_alloc ?_ _ | with_reducible refine kept_drewN ?_ _)); done))); with_reducible refine loans2 bx bY (by assumption) ?_ ?_ rfl ?_ ?_; (all_goals (try ((repeat' (first | with_reducible exact Kept.refl _ | with_reducible assumption | (go_split_ands; with_reducible assumption) | with_reducible refine kept_step (by with_reducible assumption) ?_ | with_reducible refine kept_drew ?_ | with_reducible refine kept_alloc ?_ _ | with_reducible refine kept_drewN ?_ _)); done))); (all_goals (try ((repeat' (first | with_reducible exact Below.refl _ _ | with_reducible assumption | with_reducible refine grow_step (by with_reducible assumption) ?_ | with_reducible refine grow_drew ?_ | with_reducible refine grow_alloc ?_ _ | with_reducible refine grow_drewN ?_ _)); done))); (first | (refine Or.inl ?_; focus ((repeat' (first | with_reducible exact Below.refl _ _ | with_reducible assumption | with_reducible refine grow_step (by with_reducible assumption) ?_ | with_reducible refine grow_drew ?_ | with_reducible refine grow_alloc ?_ _ | with_reducible refine grow_drewN ?_ _)); done)) | (refine Or.inr ?_; focus ((repeat' (first | with_reducible exact Below.refl _ _ | with_reducible assumption | with_reducible refine grow_step (by with_reducible assumption) ?_ | with_reducible refine grow_drew ?_ | with_reducible refine grow_alloc ?_ _ | with_reducible refine grow_drewN ?_ _)); done))); rintro e w' ⟨rfl, hk⟩) | (go_at_call 11; refine (is_two (w0 := w0) (by assumption) (by assumption) (by assumption) ?_ (by assumption) (by assumption) (by assumption) ?_ ?_ ?_ ?_ (by decide)).mono ?_; (all_goals (try ((repeat' (first | with_reducible exact Below.refl _ _ | with_reducible assumption | with_reducible refine grow_step (by with_reducible assumption) ?_ | with_reducible refine grow_drew ?_ | with_reducible refine grow_alloc ?_ _ | with_reducible refine grow_drewN ?_ _)); done))); (all_goals (try ((repeat' (first | with_reducible exact Kept.refl _ | with_reducible assumption | (go_split_ands; with_reducible assumption) | with_reducible refine kept_step (by with_reducible assumption) ?_ | with_reducible refine kept_drew ?_ | with_reducible refine kept_alloc ?_ _ | with_reducible refine kept_drewN ?_ _)); done))); with_reducible refine loans1 bx (by assumption) ?_ ?_ rfl ?_ ?_; (all_goals (try ((repeat' (first | with_reducible exact Kept.refl _ | with_reducible assumption | (go_split_ands; with_reducible assumption) | with_reducible refine kept_step (by with_reducible assumption) ?_ | with_reducible refine kept_drew ?_ | with_reducible refine kept_alloc ?_ _ | with_reducible refine kept_drewN ?_ _)); done))); (all_goals (try ((repeat' (first | with_reducible exact Below.refl _ _ | with_reducible assumption | with_reducible refine grow_step (by with_reducible assumption) ?_ | with_reducible refine grow_drew ?_ | with_reducible refine grow_alloc ?_ _ | with_reducible refine grow_drewN ?_ _)); done))); (first | (refine Or.inl ?_; focus ((repeat' (first | with_reducible exact Below.refl _ _ | with_reducible assumption | with_reducible refine grow_step (by with_reducible assumption) ?_ | with_reducible refine grow_drew ?_ | with_reducible refine grow_alloc ?_ _ | with_reducible refine grow_drewN ?_ _)); done)) | (refine Or.inr ?_; focus ((repeat' (first | with_reducible exact Below.refl _ _ | with_reducible assumption | with_reducible refine grow_step (by with_reducible assumption) ?_ | with_reducible refine grow_drew ?_ | with_reducible refine grow_alloc ?_ _ | with_reducible refine grow_drewN ?_ _)); done))); rintro e w' ⟨rfl, hk⟩) | (go_at_call 16; refine (known_S tb (by (repeat' (first | with_reducible exact Kept.refl _ | with_reducible assumption | (go_split_ands; with_reducible assumption) | with_reducible refine kept_step (by with_reducible assumption) ?_ | with_reducible refine kept_drew ?_ | with_reducible refine kept_alloc ?_ _ | with_reducible refine kept_drewN ?_ _)))).mono ?_; rintro e w' ⟨rfl, hg⟩))
 all_goals (
  have kf : Kept w0 w' := by (repeat' (first | with_reducible exact Kept.refl _ | with_reducible assumption | (go_split_ands; with_reducible assumption) | with_reducible refine kept_step (by with_reducible assumption) ?_ | with_reducible refine kept_drew ?_ | with_reducible refine kept_alloc ?_ _ | with_reducible refine kept_drewN ?_ _))
  go_wp2_with fail
  go_ret
  exact ⟨rfl, b0.trans (Below.mono kf b0.size)⟩)
end Go.Proofs.YtndhjoofbkgkiaaDoor

namespace Go.Proofs.YtndhjoofbkgkiaaDoor
open Go.RowKit

set_option maxRecDepth 100000 in
set_option maxHeartbeats 3200000 in
theorem natAdds_walk {aa ab : Option Addr} {la ca lb cb : Nat} {xs ys : List Int} {w : World} (ha : Rd w aa la ca xs) (hb : Rd w ab lb cb ys) (hla : la ≤ 1048576) (hlb : lb ≤ 1048576) (htab : Tab w) :
  Calls Tryd.prog 3 #[.slice aa la ca, .slice ab lb cb] w fun e w' => e = .returned (.bool true) ∧ Below w.heap.size w w' := by
 go_enter Tryd.func3, Tryd.ntmps3
 go_wp2_with fail
 refine (lend_any ha (by omega)).mono ?_
 rintro e w1 ⟨f1, g1, F1, rfl, b1, -, -, lent1⟩
 go_wp2_with fail
 have bx := box_new lent1
 have b2 := below_alloc' b1 (.cells #[.slice (some ⟨f1, 0, none⟩) (la + 4) (la + 4), .int .i64 la, .slice (some ⟨g1, 0, none⟩) (la + 4) (la + 4)] 24)
 generalize w1.alloc (.cells #[.slice (some ⟨f1, 0, none⟩) (la + 4) (la + 4), .int .i64 la, .slice (some ⟨g1, 0, none⟩) (la + 4) (la + 4)] 24) = w2 at *
 generalize w1.heap.size = p at *
 clear b1 lent1
 refine (lend_any (hb.below b2) (by omega)).mono ?_
 rintro e w3 ⟨f2, g2, F2, rfl, b3, -, -, lent2⟩
 go_wp2_with fail
 have bY := box_new lent2
 have b4 := below_alloc' b3 (.cells #[.slice (some ⟨f2, 0, none⟩) (lb + 4) (lb + 4), .int .i64 lb, .slice (some ⟨g2, 0, none⟩) (lb + 4) (lb + 4)] 24)
 generalize w3.alloc (.cells #[.slice (some ⟨f2, 0, none⟩) (lb + 4) (lb + 4), .int .i64 lb, .slice (some ⟨g2, 0, none⟩) (lb + 4) (lb + 4)] 24) = w0 at *
 generalize w3.heap.size = q at *
 clear b3 lent2
 replace bx := bx.below b4
 have b0 := b2.trans (b4.mono b2.size)
 clear b2 b4
 have ra := ha.below b0
 have rb := hb.below b0
 have tb := htab.below b0
 clear ha hb htab
 refine (refcmp_any ra rb).mono ?_
 rintro e w' ⟨rfl, rfl⟩
 go_wp2_with fail
 have hn1 : (0 : Int) ≤ (la : Int) := by omega
 have hn2 : (0 : Int) ≤ (lb : Int) := by omega
 have HC : Hid (∃ c, cmpI (val xs) (val ys) = c) := ⟨_, rfl⟩
 obtain ⟨c, hc⟩ := HC.out
 rw [hc]
 replace hc := hide hc
 clear HC
 have HS := sub_SS bx bY
 rw [unhide hc] at HS
 go_region_held3 (fun w' => w'.cell? ⟨p, 0, none⟩ = some (.slice (some ⟨f1, 0, none⟩) (la + 4) (la + 4)) ∧ w'.cell? ⟨p, 1, none⟩ = some (.int .i64 la) ∧ w'.cell? ⟨p, 2, none⟩ = some (.slice (some ⟨g1, 0, none⟩) (la + 4) (la + 4)) ∧ w'.cell? ⟨q, 0, none⟩ = some (.slice (some ⟨f2, 0, none⟩) (lb + 4) (lb + 4)) ∧ w'.cell? ⟨q, 1, none⟩ = some (.int .i64 lb) ∧ w'.cell? ⟨q, 2, none⟩ = some (.slice (some ⟨g2, 0, none⟩) (lb + 4) (lb + 4)) ∧ Kept w0 w')
  ((refine mk_S bx bY ?_; (repeat' (first | with_reducible exact Kept.refl _ | with_reducible assumption | (go_split_ands; with_reducible assumption) | with_reducible refine kept_step (by with_reducible assumption) ?_ | with_reducible refine kept_drew ?_ | with_reducible refine kept_alloc ?_ _ | with_reducible refine kept_drewN ?_ _))))
  (first | (go_at_call 10; refine (list_any (by omega)).mono ?_; rintro e w' ⟨rfl, hg⟩) | (go_at_call 9; refine (HS _ (by (repeat' (first | with_reducible exact Kept.refl _ | with_reducible assumption | (go_split_ands; with_reducible assumption) | with_reducible refine kept_step (by with_reducible assumption) ?_ | with_reducible refine kept_drew ?_ | with_reducible refine kept_alloc ?_ _ | with_reducible refine kept_drewN ?_ _)))).mono ?_; rintro e w' ⟨ad, len, cap, er, rfl, hcase, hg⟩))
 clear HS
 go_upto_if 26 with (fail)
 go_cut [] (fun w' => Kept w0 w')
 case first =>
  rcases unhide hcase with ⟨hcn, rfl, rfl⟩ | ⟨hcn, rfl, zs, ho, hcn2, hv⟩
  ·go_wp2_with fail
   go_meet
   case rel => (repeat' (first | with_reducible exact Kept.refl _ | with_reducible assumption | (go_split_ands; with_reducible assumption) | with_reducible refine kept_step (by with_reducible assumption) ?_ | with_reducible refine kept_drew ?_ | with_reducible refine kept_alloc ?_ _ | with_reducible refine kept_drewN ?_ _))
  ·go_wp2_with fail
   have HGE := hide (cmp_ge (unhide hc) hcn)
   go_region_held3 (fun w' => w'.cell? ⟨p, 0, none⟩ = some (.slice (some ⟨f1, 0, none⟩) (la + 4) (la + 4)) ∧ w'.cell? ⟨p, 1, none⟩ = some (.int .i64 la) ∧ w'.cell? ⟨p, 2, none⟩ = some (.slice (some ⟨g1, 0, none⟩) (la + 4) (la + 4)) ∧ w'.cell? ⟨q, 0, none⟩ = some (.slice (some ⟨f2, 0, none⟩) (lb + 4) (lb + 4)) ∧ w'.cell? ⟨q, 1, none⟩ = some (.int .i64 lb) ∧ w'.cell? ⟨q, 2, none⟩ = some (.slice (some ⟨g2, 0, none⟩) (lb + 4) (lb + 4)) ∧ Kept w0 w')
    ((refine mk_S bx bY ?_; (repeat' (first | with_reducible exact Kept.refl _ | with_reducible assumption | (go_split_ands; with_reducible assumption) | with_reducible refine kept_step (by with_reducible assumption) ?_ | with_reducible refine kept_drew ?_ | with_reducible refine kept_alloc ?_ _ | with_reducible refine kept_drewN ?_ _))))
    (first | (go_at_call 12; with_reducible refine (refsub_S ra rb hla (unhide HGE) (by (repeat' (first | with_reducible exact Kept.refl _ | with_reducible assumption | (go_split_ands; with_reducible assumption) | with_reducible refine kept_step (by with_reducible assumption) ?_ | with_reducible refine kept_drew ?_ | with_reducible refine kept_alloc ?_ _ | with_reducible refine kept_drewN ?_ _)))).mono ?_; rintro e w' ⟨ad, len, cap, zs, rfl, ho, hcn, hv, hg⟩) | (go_at_call 11; refine (is_two (w0 := w0) (by assumption) (by assumption) (by assumption) ?_ (by assumption) (by assumption) (by assumption) ?_ ?_ ?_ ?_ (by decide)).mono ?_; (all_goals (try ((repeat' (first | with_reducible exact Below.refl _ _ | with_reducible assumption | with_reducible refine grow_step (by with_reducible assumption) ?_ | with_reducible refine grow_drew ?_ | with_reducible refine grow_alloc ?_ _ | with_reducible refine grow_drewN ?_ _)); done))); (all_goals (try ((repeat' (first | with_reducible exact Kept.refl _ | with_reducible assumption | (go_split_ands; with_reducible assumption) | with_reducible refine kept_step (by with_reducible assumption) ?_ | with_reducible refine kept_drew ?_ | with_reducible refine kept_alloc ?_ _ | with_reducible refine kept_drewN ?_ _)); done))); with_reducible refine loans2 bx bY (by assumption) ?_ ?_ rfl ?_ ?_; (all_goals (try ((repeat' (first | with_reducible exact Kept.refl _ | with_reducible assumption | (go_split_ands; with_reducible assumption) | with_reducible refine kept_step (by with_reducible assumption) ?_ | with_reducible refine kept_drew ?_ | with_reducible refine kept_alloc ?_ _ | with_reducible refine kept_drewN ?_ _)); done))); (all_goals (try ((repeat' (first | with_reducible exact Below.refl _ _ | with_reducible assumption | with_reducible refine grow_step (by with_reducible assumption) ?_ | with_reducible refine grow_drew ?_ | with_reducible refine grow_alloc ?_ _ | with_reducible refine grow_drewN ?_ _)); done))); (first | (refine Or.inl ?_; focus ((repeat' (first | with_reducible exact Below.refl _ _ | with_reducible assumption | with_reducible refine grow_step (by with_reducible assumption) ?_ | with_reducible refine grow_drew ?_ | with_reducible refine grow_alloc ?_ _ | with_reducible refine grow_drewN ?_ _)); done)) | (refine Or.inr ?_; focus ((repeat' (first | with_reducible exact Below.refl _ _ | with_reducible assumption | with_reducible refine grow_step (by with_reducible assumption) ?_ | with_reducible refine grow_drew ?_ | with_reducible refine grow_alloc ?_ _ | with_reducible refine grow_drewN ?_ _)); done))); rintro e w' ⟨rfl, hk⟩))
   all_goals (go_wp2_with fail; go_meet)
   all_goals (case rel => (repeat' (first | with_reducible exact Kept.refl _ | with_reducible assumption | (go_split_ands; with_reducible assumption) | with_reducible refine kept_step (by with_reducible assumption) ?_ | with_reducible refine kept_drew ?_ | with_reducible refine kept_alloc ?_ _ | with_reducible refine kept_drewN ?_ _)))
 case rest =>
  rename_i hK
  exact hK _ _ (natAdds_rest hla hlb bx bY b0 ra rb tb hc hcut)
end Go.Proofs.YtndhjoofbkgkiaaDoor
