/-
 The law NatDivisors: its last statement, in three parts, each from whatever frame.
-/
import Derived.Test.YtndhjoofbkgkiaaDoorP21
import Derived.Deep.RegionHeld3
import Derived.Deep.DeepCutAuto
namespace Go.Proofs.YtndhjoofbkgkiaaDoor
open Go.RowKit

/-- the code from the region of that number on -/
def isRegion (n : Nat) : Code → Bool
 | .region m _ _ => m == n
 | _ => false
def fromRegion (n : Nat) : Code → Option Code
 | .seq a b => if isRegion n a then some (.seq a b) else match fromRegion n a with
  | some c => some c
  | none => fromRegion n b
 | .cond _ a b => match fromRegion n a with
  | some c => some c
  | none => fromRegion n b
 | .block _ c => fromRegion n c
 | .scope c => fromRegion n c
 | .loop c => fromRegion n c
 | _ => none
def natDivisorsTailAt (f : Func) : Code := (f.body.bind (fromRegion 3)).getD .skip
/-- the way through the region at the code's head, from where some operations are done -/
def regAny (P : Program) (c : Code) (Q : Exit → Act → World → Prop) (S : World → Prop) (fuel : Nat) (listed : Array Bool) (a : Act) (w : World) : Prop :=
 match c with
 | .seq (.region _ ops _) _ => wpAnyH P .any ops Q S fuel listed a w
 | _ => False
def upTo (n m : Nat) : Array Bool := (List.replicate n true ++ List.replicate m false).toArray
theorem anyH_listed {P : Program} {md : Region.Mode} {ops : Array Oper} {Q : Exit → Act → World → Prop} {S : World → Prop} {fuel : Nat} {l l' : Array Bool} {a : Act} {w : World} (h : l = l') (k : wpAnyH P md ops Q S fuel l' a w) : wpAnyH P md ops Q S fuel l a w := h ▸ k

set_option maxRecDepth 100000 in
set_option maxHeartbeats 3200000 in
theorem natDivisors_c3 {aa ab : Option Addr} {la ca lb cb : Nat} {xs ys : List Int} {w0 wc : World} {p q f1 g1 f2 g2 : Nat} {F1 F2 : List Int} {Q : Exit → Act → World → Prop} (hla : la ≤ 1048576) (hlb : lb ≤ 1048576) (bx : Box w0 p f1 g1 la xs F1) (bY : Box w0 q f2 g2 lb ys F2) (ra : Rd w0 aa la ca xs) (_rb : Rd w0 ab lb cb ys) (tb : Tab w0) (hP : ∀ c a d v w, Q (.panic c) (Act.put a d v) w → Q (.panic c) a w) (hend : ∀ (u2 u3 u7 u8 u9 u10 u11 u12 u13 u14 u15 u16 u17 u18 u19 u20 u21 u22 u23 u24 u25 u26 u27 u28 u29 u30 u31 u32 u33 u34 u35 u36 u37 u38 u39 u40 u41 u42 u43 u44 u45 u46 u47 u48 u49 u50 u51 : Value) (w' : World), Kept w0 w' → Q .normal ⟨#[.slice aa la ca, .slice ab lb cb, u2, u3, .bool true, .pointer (some ⟨p, 0, none⟩), .pointer (some ⟨q, 0, none⟩), u7, u8, u9, u10, u11, u12, u13, u14, u15, u16, u17, u18, u19, u20, u21, u22, u23, u24, u25, u26, u27, u28, u29, u30, u31, u32, u33, u34, u35, u36, u37, u38, u39, u40, u41, u42, u43, u44, u45, u46, u47, u48, u49, u50, u51], []⟩ w') (hcut : Kept w0 wc) (u2 u3 u4 u7 u8 u9 u10 u11 u12 u13 u14 u15 u16 u17 u18 u19 u20 u21 u22 u23 u24 u25 u26 u27 u28 u29 u30 u31 u32 u33 u34 u35 u36 u38 u39 u40 u41 u42 u43 u44 u45 u46 u47 u48 u49 u50 u51 : Value) :
  regAny Tryd.prog (natDivisorsTailAt Tryd.f5) Q (fun w' => w'.cell? ⟨p, 0, none⟩ = some (.slice (some ⟨f1, 0, none⟩) (la + 4) (la + 4)) ∧ w'.cell? ⟨p, 1, none⟩ = some (.int .i64 la) ∧ w'.cell? ⟨p, 2, none⟩ = some (.slice (some ⟨g1, 0, none⟩) (la + 4) (la + 4)) ∧ w'.cell? ⟨q, 0, none⟩ = some (.slice (some ⟨f2, 0, none⟩) (lb + 4) (lb + 4)) ∧ w'.cell? ⟨q, 1, none⟩ = some (.int .i64 lb) ∧ w'.cell? ⟨q, 2, none⟩ = some (.slice (some ⟨g2, 0, none⟩) (lb + 4) (lb + 4)) ∧ Kept w0 w') 15 (upTo 27 15) ⟨#[.slice aa la ca, .slice ab lb cb, u2, u3, u4, .pointer (some ⟨p, 0, none⟩), .pointer (some ⟨q, 0, none⟩), u7, u8, u9, u10, u11, u12, u13, u14, u15, u16, u17, u18, u19, u20, u21, u22, u23, u24, u25, u26, u27, u28, u29, u30, u31, u32, u33, u34, u35, u36, .bool true, u38, u39, u40, u41, u42, u43, u44, u45, u46, u47, u48, u49, u50, u51], []⟩ wc := by
 have hn1 : (0 : Int) ≤ (la : Int) := by omega
 have hn2 : (0 : Int) ≤ (lb : Int) := by omega
 have hHeld : (fun w' => w'.cell? ⟨p, 0, none⟩ = some (.slice (some ⟨f1, 0, none⟩) (la + 4) (la + 4)) ∧ w'.cell? ⟨p, 1, none⟩ = some (.int .i64 la) ∧ w'.cell? ⟨p, 2, none⟩ = some (.slice (some ⟨g1, 0, none⟩) (la + 4) (la + 4)) ∧ w'.cell? ⟨q, 0, none⟩ = some (.slice (some ⟨f2, 0, none⟩) (lb + 4) (lb + 4)) ∧ w'.cell? ⟨q, 1, none⟩ = some (.int .i64 lb) ∧ w'.cell? ⟨q, 2, none⟩ = some (.slice (some ⟨g2, 0, none⟩) (lb + 4) (lb + 4)) ∧ Kept w0 w') wc := by ((refine mk_S bx bY ?_; (repeat' (first | with_reducible exact Kept.refl _ | with_reducible assumption | (go_split_ands; with_reducible assumption) | with_reducible refine kept_step (by with_reducible assumption) ?_ | with_reducible refine kept_drew ?_ | with_reducible refine kept_alloc ?_ _ | with_reducible refine kept_drewN ?_ _))))
 conv => arg 2; whnf
 dsimp only [regAny]
 refine wpAnyH_take (i := 27) (oi := ⟨some 38, _, _, _, _, _⟩) (v := ?_) rfl (by kernel_rfl) (by kernel_rfl) (by kernel_rfl) (fun _ _ _ h => hP _ _ _ _ _ h) (Or.inl ⟨by rfl, ?_⟩) (by assumption) ?_
 rotate_left
 ·intro wq hSw; (try dsimp only at hSw); go_simp; (try with_reducible rfl)
 (try simp only [Act.put, List.setIfInBounds_toArray, List.set_cons_zero, List.set_cons_succ])
 refine wpAnyH_take (i := 29) (oi := ⟨some 40, _, _, _, _, _⟩) (v := ?_) rfl (by kernel_rfl) (by kernel_rfl) (by kernel_rfl) (fun _ _ _ h => hP _ _ _ _ _ h) (Or.inl ⟨by rfl, ?_⟩) (by assumption) ?_
 rotate_left
 ·intro wq hSw; (try dsimp only at hSw); go_simp; (try with_reducible rfl)
 (try simp only [Act.put, List.setIfInBounds_toArray, List.set_cons_zero, List.set_cons_succ])
 refine wpAnyH_take (i := 32) (oi := ⟨some 43, _, _, _, _, _⟩) (v := ?_) rfl (by kernel_rfl) (by kernel_rfl) (by kernel_rfl) (fun _ _ _ h => hP _ _ _ _ _ h) (Or.inl ⟨by rfl, ?_⟩) (by assumption) ?_
 rotate_left
 ·intro wq hSw; (try dsimp only at hSw); go_simp; (try with_reducible rfl)
 (try simp only [Act.put, List.setIfInBounds_toArray, List.set_cons_zero, List.set_cons_succ])
 refine wpAnyH_take (i := 34) (oi := ⟨some 45, _, _, _, _, _⟩) (v := ?_) rfl (by kernel_rfl) (by kernel_rfl) (by kernel_rfl) (fun _ _ _ h => hP _ _ _ _ _ h) (Or.inl ⟨by rfl, ?_⟩) (by assumption) ?_
 rotate_left
 ·intro wq hSw; (try dsimp only at hSw); go_simp; (try with_reducible rfl)
 (try simp only [Act.put, List.setIfInBounds_toArray, List.set_cons_zero, List.set_cons_succ])
 refine wpAnyH_ready (rs := [28, 35]) (by kernel_rfl) (by simp) ?_
 refine AllReadyH.cons (o := ⟨some 39, _, _, _, _, _⟩) rfl (fun K hK => ?_) ?_
 ·go_simp
  (go_at_call 10; refine (list_any (by omega)).mono ?_; rintro e w' ⟨rfl, hg⟩)
  (try go_wp2_with fail)
  refine hK.out _ _ ?_ ?_
  ·(try dsimp only); ((refine mk_S bx bY ?_; (repeat' (first | with_reducible exact Kept.refl _ | with_reducible assumption | (go_split_ands; with_reducible assumption) | with_reducible refine kept_step (by with_reducible assumption) ?_ | with_reducible refine kept_drew ?_ | with_reducible refine kept_alloc ?_ _ | with_reducible refine kept_drewN ?_ _))))
  clear hK K hHeld; intro hHeld
  (try simp only [Act.put, List.setIfInBounds_toArray, List.set_cons_zero, List.set_cons_succ])
  refine wpAnyH_ready (rs := [30, 35]) (by kernel_rfl) (by simp) ?_
  refine AllReadyH.cons (o := ⟨some 41, _, _, _, _, _⟩) rfl (fun K hK => ?_) ?_
  ·go_simp
   (go_at_call 10; refine (list_any (by omega)).mono ?_; rintro e w' ⟨rfl, hg⟩)
   (try go_wp2_with fail)
   refine hK.out _ _ ?_ ?_
   ·(try dsimp only); ((refine mk_S bx bY ?_; (repeat' (first | with_reducible exact Kept.refl _ | with_reducible assumption | (go_split_ands; with_reducible assumption) | with_reducible refine kept_step (by with_reducible assumption) ?_ | with_reducible refine kept_drew ?_ | with_reducible refine kept_alloc ?_ _ | with_reducible refine kept_drewN ?_ _))))
   clear hK K hHeld; intro hHeld
   (try simp only [Act.put, List.setIfInBounds_toArray, List.set_cons_zero, List.set_cons_succ])
   refine wpAnyH_ready (rs := [31, 35]) (by kernel_rfl) (by simp) ?_
   refine AllReadyH.cons (o := ⟨some 42, _, _, _, _, _⟩) rfl (fun K hK => ?_) ?_
   ·go_simp
    (go_at_call 22; first | (with_reducible refine (gcd_S bx bY (by (repeat' (first | with_reducible exact Kept.refl _ | with_reducible assumption | (go_split_ands; with_reducible assumption) | with_reducible refine kept_step (by with_reducible assumption) ?_ | with_reducible refine kept_drew ?_ | with_reducible refine kept_alloc ?_ _ | with_reducible refine kept_drewN ?_ _)))).mono ?_; rintro e w' ⟨ad, len, cap, zs, rfl, ho, hcn, hv, hg⟩) | (with_reducible refine (gcd_SX bx (by (repeat' (first | with_reducible exact Kept.refl _ | with_reducible assumption | (go_split_ands; with_reducible assumption) | with_reducible refine kept_step (by with_reducible assumption) ?_ | with_reducible refine kept_drew ?_ | with_reducible refine kept_alloc ?_ _ | with_reducible refine kept_drewN ?_ _)))).mono ?_; rintro e w' ⟨ad, len, cap, zs, rfl, ho, hcn, hv, hg⟩))
    (try go_wp2_with fail)
    refine hK.out _ _ ?_ ?_
    ·(try dsimp only); ((refine mk_S bx bY ?_; (repeat' (first | with_reducible exact Kept.refl _ | with_reducible assumption | (go_split_ands; with_reducible assumption) | with_reducible refine kept_step (by with_reducible assumption) ?_ | with_reducible refine kept_drew ?_ | with_reducible refine kept_alloc ?_ _ | with_reducible refine kept_drewN ?_ _))))
    clear hK K hHeld; intro hHeld
    (try simp only [Act.put, List.setIfInBounds_toArray, List.set_cons_zero, List.set_cons_succ])
    refine wpAnyH_ready (rs := [33, 35]) (by kernel_rfl) (by simp) ?_
    refine AllReadyH.cons (o := ⟨some 44, _, _, _, _, _⟩) rfl (fun K hK => ?_) ?_
    ·go_simp
     (go_at_call 18; with_reducible refine (trim_S ra hla (by (repeat' (first | with_reducible exact Kept.refl _ | with_reducible assumption | (go_split_ands; with_reducible assumption) | with_reducible refine kept_step (by with_reducible assumption) ?_ | with_reducible refine kept_drew ?_ | with_reducible refine kept_alloc ?_ _ | with_reducible refine kept_drewN ?_ _)))).mono ?_; rintro e w' ⟨ad, len, cap, zs, rfl, ho, hcn, hv, hg⟩)
     (try go_wp2_with fail)
     refine hK.out _ _ ?_ ?_
     ·(try dsimp only); ((refine mk_S bx bY ?_; (repeat' (first | with_reducible exact Kept.refl _ | with_reducible assumption | (go_split_ands; with_reducible assumption) | with_reducible refine kept_step (by with_reducible assumption) ?_ | with_reducible refine kept_drew ?_ | with_reducible refine kept_alloc ?_ _ | with_reducible refine kept_drewN ?_ _))))
     clear hK K hHeld; intro hHeld
     (try simp only [Act.put, List.setIfInBounds_toArray, List.set_cons_zero, List.set_cons_succ])
     refine wpAnyH_ready (rs := [35]) (by kernel_rfl) (by simp) ?_
     refine AllReadyH.cons (o := ⟨some 46, _, _, _, _, _⟩) rfl (fun K hK => ?_) ?_
     ·go_simp
      refine hK.out _ _ ?_ ?_
      ·(try dsimp only); ((refine mk_S bx bY ?_; (repeat' (first | with_reducible exact Kept.refl _ | with_reducible assumption | (go_split_ands; with_reducible assumption) | with_reducible refine kept_step (by with_reducible assumption) ?_ | with_reducible refine kept_drew ?_ | with_reducible refine kept_alloc ?_ _ | with_reducible refine kept_drewN ?_ _))))
      clear hK K hHeld; intro hHeld
      (try simp only [Act.put, List.setIfInBounds_toArray, List.set_cons_zero, List.set_cons_succ])
      refine wpAnyH_ready (rs := [36]) (by kernel_rfl) (by simp) ?_
      refine AllReadyH.cons (o := ⟨some 47, _, _, _, _, _⟩) rfl (fun K hK => ?_) ?_
      ·go_simp
       (go_at_call 11; refine (is_two (w0 := w0) (by assumption) (by assumption) (by assumption) ?_ (by assumption) (by assumption) (by assumption) ?_ ?_ ?_ ?_ (by decide)).mono ?_; (all_goals (try ((repeat' (first | with_reducible exact Below.refl _ _ | with_reducible assumption | with_reducible refine grow_step (by with_reducible assumption) ?_ | with_reducible refine grow_drew ?_ | with_reducible refine grow_alloc ?_ _ | with_reducible refine grow_drewN ?_ _)); done))); (all_goals (try ((repeat' (first | with_reducible exact Kept.refl _ | with_reducible assumption | (go_split_ands; with_reducible assumption) | with_reducible refine kept_step (by with_reducible assumption) ?_ | with_reducible refine kept_drew ?_ | with_reducible refine kept_alloc ?_ _ | with_reducible refine kept_drewN ?_ _)); done))); with_reducible refine loans1 bx (by assumption) ?_ ?_ rfl ?_ ?_; (all_goals (try ((repeat' (first | with_reducible exact Kept.refl _ | with_reducible assumption | (go_split_ands; with_reducible assumption) | with_reducible refine kept_step (by with_reducible assumption) ?_ | with_reducible refine kept_drew ?_ | with_reducible refine kept_alloc ?_ _ | with_reducible refine kept_drewN ?_ _)); done))); (all_goals (try ((repeat' (first | with_reducible exact Below.refl _ _ | with_reducible assumption | with_reducible refine grow_step (by with_reducible assumption) ?_ | with_reducible refine grow_drew ?_ | with_reducible refine grow_alloc ?_ _ | with_reducible refine grow_drewN ?_ _)); done))); (first | (refine Or.inl ?_; focus ((repeat' (first | with_reducible exact Below.refl _ _ | with_reducible assumption | with_reducible refine grow_step (by with_reducible assumption) ?_ | with_reducible refine grow_drew ?_ | with_reducible refine grow_alloc ?_ _ | with_reducible refine grow_drewN ?_ _)); done)) | (refine Or.inr ?_; focus ((repeat' (first | with_reducible exact Below.refl _ _ | with_reducible assumption | with_reducible refine grow_step (by with_reducible assumption) ?_ | with_reducible refine grow_drew ?_ | with_reducible refine grow_alloc ?_ _ | with_reducible refine grow_drewN ?_ _)); done))); rintro e w' ⟨rfl, hk⟩)
       (try go_wp2_with fail)
       refine hK.out _ _ ?_ ?_
       ·(try dsimp only); ((refine mk_S bx bY ?_; (repeat' (first | with_reducible exact Kept.refl _ | with_reducible assumption | (go_split_ands; with_reducible assumption) | with_reducible refine kept_step (by with_reducible assumption) ?_ | with_reducible refine kept_drew ?_ | with_reducible refine kept_alloc ?_ _ | with_reducible refine kept_drewN ?_ _))))
       clear hK K hHeld; intro hHeld
       (try simp only [Act.put, List.setIfInBounds_toArray, List.set_cons_zero, List.set_cons_succ])
       refine wpAnyH_take (i := 37) (oi := ⟨some 48, _, _, _, _, _⟩) (v := ?_) rfl (by kernel_rfl) (by kernel_rfl) (by kernel_rfl) (fun _ _ _ h => hP _ _ _ _ _ h) (Or.inl ⟨by rfl, ?_⟩) (by assumption) ?_
       rotate_left
       ·intro wq hSw; (try dsimp only at hSw); go_simp; (try with_reducible rfl)
       (try simp only [Act.put, List.setIfInBounds_toArray, List.set_cons_zero, List.set_cons_succ])
       refine wpAnyH_take (i := 38) (oi := ⟨some 49, _, _, _, _, _⟩) (v := ?_) rfl (by kernel_rfl) (by kernel_rfl) (by kernel_rfl) (fun _ _ _ h => hP _ _ _ _ _ h) (Or.inl ⟨by rfl, ?_⟩) (by assumption) ?_
       rotate_left
       ·intro wq hSw; (try dsimp only at hSw); go_simp; (try with_reducible rfl)
       (try simp only [Act.put, List.setIfInBounds_toArray, List.set_cons_zero, List.set_cons_succ])
       refine wpAnyH_ready (rs := [39]) (by kernel_rfl) (by simp) ?_
       refine AllReadyH.cons (o := ⟨some 50, _, _, _, _, _⟩) rfl (fun K hK => ?_) ?_
       ·go_simp
        (go_at_call 16; refine (known_S tb (by (repeat' (first | with_reducible exact Kept.refl _ | with_reducible assumption | (go_split_ands; with_reducible assumption) | with_reducible refine kept_step (by with_reducible assumption) ?_ | with_reducible refine kept_drew ?_ | with_reducible refine kept_alloc ?_ _ | with_reducible refine kept_drewN ?_ _)))).mono ?_; rintro e w' ⟨rfl, hg⟩)
        (try go_wp2_with fail)
        refine hK.out _ _ ?_ ?_
        ·(try dsimp only); ((refine mk_S bx bY ?_; (repeat' (first | with_reducible exact Kept.refl _ | with_reducible assumption | (go_split_ands; with_reducible assumption) | with_reducible refine kept_step (by with_reducible assumption) ?_ | with_reducible refine kept_drew ?_ | with_reducible refine kept_alloc ?_ _ | with_reducible refine kept_drewN ?_ _))))
        clear hK K hHeld; intro hHeld
        (try simp only [Act.put, List.setIfInBounds_toArray, List.set_cons_zero, List.set_cons_succ])
        refine wpAnyH_take (i := 40) (oi := ⟨some 51, _, _, _, _, _⟩) (v := ?_) rfl (by kernel_rfl) (by kernel_rfl) (by kernel_rfl) (fun _ _ _ h => hP _ _ _ _ _ h) (Or.inl ⟨by rfl, ?_⟩) (by assumption) ?_
        rotate_left
        ·intro wq hSw; (try dsimp only at hSw); go_simp; (try with_reducible rfl)
        (try simp only [Act.put, List.setIfInBounds_toArray, List.set_cons_zero, List.set_cons_succ])
        refine wpAnyH_take (i := 41) (oi := ⟨some 4, _, _, _, _, _⟩) (v := ?_) rfl (by kernel_rfl) (by kernel_rfl) (by kernel_rfl) (fun _ _ _ h => hP _ _ _ _ _ h) (Or.inl ⟨by rfl, ?_⟩) (by assumption) ?_
        rotate_left
        ·intro wq hSw; (try dsimp only at hSw); go_simp; (try with_reducible rfl)
        (try simp only [Act.put, List.setIfInBounds_toArray, List.set_cons_zero, List.set_cons_succ])
        refine wpAnyH_done (by kernel_rfl) ?_ _
        exact hend _ _ _ _ _ _ _ _ _ _ _ _ _ _ _ _ _ _ _ _ _ _ _ _ _ _ _ _ _ _ _ _ _ _ _ _ _ _ _ _ _ _ _ _ _ _ _ _ (by (repeat' (first | with_reducible exact Kept.refl _ | with_reducible assumption | (go_split_ands; with_reducible assumption) | with_reducible refine kept_step (by with_reducible assumption) ?_ | with_reducible refine kept_drew ?_ | with_reducible refine kept_alloc ?_ _ | with_reducible refine kept_drewN ?_ _)))
       exact AllReadyH.nil
      exact AllReadyH.nil
     exact AllReadyH.nil
    refine AllReadyH.cons (o := ⟨some 46, _, _, _, _, _⟩) rfl (fun K hK => ?_) ?_
    ·go_simp
     refine hK.out _ _ ?_ ?_
     ·(try dsimp only); ((refine mk_S bx bY ?_; (repeat' (first | with_reducible exact Kept.refl _ | with_reducible assumption | (go_split_ands; with_reducible assumption) | with_reducible refine kept_step (by with_reducible assumption) ?_ | with_reducible refine kept_drew ?_ | with_reducible refine kept_alloc ?_ _ | with_reducible refine kept_drewN ?_ _))))
     clear hK K hHeld; intro hHeld
     (try simp only [Act.put, List.setIfInBounds_toArray, List.set_cons_zero, List.set_cons_succ])
     refine wpAnyH_ready (rs := [33]) (by kernel_rfl) (by simp) ?_
     refine AllReadyH.cons (o := ⟨some 44, _, _, _, _, _⟩) rfl (fun K hK => ?_) ?_
     ·go_simp
      (go_at_call 18; with_reducible refine (trim_S ra hla (by (repeat' (first | with_reducible exact Kept.refl _ | with_reducible assumption | (go_split_ands; with_reducible assumption) | with_reducible refine kept_step (by with_reducible assumption) ?_ | with_reducible refine kept_drew ?_ | with_reducible refine kept_alloc ?_ _ | with_reducible refine kept_drewN ?_ _)))).mono ?_; rintro e w' ⟨ad, len, cap, zs, rfl, ho, hcn, hv, hg⟩)
      (try go_wp2_with fail)
      refine hK.out _ _ ?_ ?_
      ·(try dsimp only); ((refine mk_S bx bY ?_; (repeat' (first | with_reducible exact Kept.refl _ | with_reducible assumption | (go_split_ands; with_reducible assumption) | with_reducible refine kept_step (by with_reducible assumption) ?_ | with_reducible refine kept_drew ?_ | with_reducible refine kept_alloc ?_ _ | with_reducible refine kept_drewN ?_ _))))
      clear hK K hHeld; intro hHeld
      (try simp only [Act.put, List.setIfInBounds_toArray, List.set_cons_zero, List.set_cons_succ])
      refine wpAnyH_ready (rs := [36]) (by kernel_rfl) (by simp) ?_
      refine AllReadyH.cons (o := ⟨some 47, _, _, _, _, _⟩) rfl (fun K hK => ?_) ?_
      ·go_simp
       (go_at_call 11; refine (is_two (w0 := w0) (by assumption) (by assumption) (by assumption) ?_ (by assumption) (by assumption) (by assumption) ?_ ?_ ?_ ?_ (by decide)).mono ?_; (all_goals (try ((repeat' (first | with_reducible exact Below.refl _ _ | with_reducible assumption | with_reducible refine grow_step (by with_reducible assumption) ?_ | with_reducible refine grow_drew ?_ | with_reducible refine grow_alloc ?_ _ | with_reducible refine grow_drewN ?_ _)); done))); (all_goals (try ((repeat' (first | with_reducible exact Kept.refl _ | with_reducible assumption | (go_split_ands; with_reducible assumption) | with_reducible refine kept_step (by with_reducible assumption) ?_ | with_reducible refine kept_drew ?_ | with_reducible refine kept_alloc ?_ _ | with_reducible refine kept_drewN ?_ _)); done))); with_reducible refine loans1 bx (by assumption) ?_ ?_ rfl ?_ ?_; (all_goals (try ((repeat' (first | with_reducible exact Kept.refl _ | with_reducible assumption | (go_split_ands; with_reducible assumption) | with_reducible refine kept_step (by with_reducible assumption) ?_ | with_reducible refine kept_drew ?_ | with_reducible refine kept_alloc ?_ _ | with_reducible refine kept_drewN ?_ _)); done))); (all_goals (try ((repeat' (first | with_reducible exact Below.refl _ _ | with_reducible assumption | with_reducible refine grow_step (by with_reducible assumption) ?_ | with_reducible refine grow_drew ?_ | with_reducible refine grow_alloc ?_ _ | with_reducible refine grow_drewN ?_ _)); done))); (first | (refine Or.inl ?_; focus ((repeat' (first | with_reducible exact Below.refl _ _ | with_reducible assumption | with_reducible refine grow_step (by with_reducible assumption) ?_ | with_reducible refine grow_drew ?_ | with_reducible refine grow_alloc ?_ _ | with_reducible refine grow_drewN ?_ _)); done)) | (refine Or.inr ?_; focus ((repeat' (first | with_reducible exact Below.refl _ _ | with_reducible assumption | with_reducible refine grow_step (by with_reducible assumption) ?_ | with_reducible refine grow_drew ?_ | with_reducible refine grow_alloc ?_ _ | with_reducible refine grow_drewN ?_ _)); done))); rintro e w' ⟨rfl, hk⟩)
       (try go_wp2_with fail)
       refine hK.out _ _ ?_ ?_
       ·(try dsimp only); ((refine mk_S bx bY ?_; (repeat' (first | with_reducible exact Kept.refl _ | with_reducible assumption | (go_split_ands; with_reducible assumption) | with_reducible refine kept_step (by with_reducible assumption) ?_ | with_reducible refine kept_drew ?_ | with_reducible refine kept_alloc ?_ _ | with_reducible refine kept_drewN ?_ _))))
       clear hK K hHeld; intro hHeld
       (try simp only [Act.put, List.setIfInBounds_toArray, List.set_cons_zero, List.set_cons_succ])
       refine wpAnyH_take (i := 37) (oi := ⟨some 48, _, _, _, _, _⟩) (v := ?_) rfl (by kernel_rfl) (by kernel_rfl) (by kernel_rfl) (fun _ _ _ h => hP _ _ _ _ _ h) (Or.inl ⟨by rfl, ?_⟩) (by assumption) ?_
       rotate_left
       ·intro wq hSw; (try dsimp only at hSw); go_simp; (try with_reducible rfl)
       (try simp only [Act.put, List.setIfInBounds_toArray, List.set_cons_zero, List.set_cons_succ])
       refine wpAnyH_take (i := 38) (oi := ⟨some 49, _, _, _, _, _⟩) (v := ?_) rfl (by kernel_rfl) (by kernel_rfl) (by kernel_rfl) (fun _ _ _ h => hP _ _ _ _ _ h) (Or.inl ⟨by rfl, ?_⟩) (by assumption) ?_
       rotate_left
       ·intro wq hSw; (try dsimp only at hSw); go_simp; (try with_reducible rfl)
       (try simp only [Act.put, List.setIfInBounds_toArray, List.set_cons_zero, List.set_cons_succ])
       refine wpAnyH_ready (rs := [39]) (by kernel_rfl) (by simp) ?_
       refine AllReadyH.cons (o := ⟨some 50, _, _, _, _, _⟩) rfl (fun K hK => ?_) ?_
       ·go_simp
        (go_at_call 16; refine (known_S tb (by (repeat' (first | with_reducible exact Kept.refl _ | with_reducible assumption | (go_split_ands; with_reducible assumption) | with_reducible refine kept_step (by with_reducible assumption) ?_ | with_reducible refine kept_drew ?_ | with_reducible refine kept_alloc ?_ _ | with_reducible refine kept_drewN ?_ _)))).mono ?_; rintro e w' ⟨rfl, hg⟩)
        (try go_wp2_with fail)
        refine hK.out _ _ ?_ ?_
        ·(try dsimp only); ((refine mk_S bx bY ?_; (repeat' (first | with_reducible exact Kept.refl _ | with_reducible assumption | (go_split_ands; with_reducible assumption) | with_reducible refine kept_step (by with_reducible assumption) ?_ | with_reducible refine kept_drew ?_ | with_reducible refine kept_alloc ?_ _ | with_reducible refine kept_drewN ?_ _))))
        clear hK K hHeld; intro hHeld
        (try simp only [Act.put, List.setIfInBounds_toArray, List.set_cons_zero, List.set_cons_succ])
        refine wpAnyH_take (i := 40) (oi := ⟨some 51, _, _, _, _, _⟩) (v := ?_) rfl (by kernel_rfl) (by kernel_rfl) (by kernel_rfl) (fun _ _ _ h => hP _ _ _ _ _ h) (Or.inl ⟨by rfl, ?_⟩) (by assumption) ?_
        rotate_left
        ·intro wq hSw; (try dsimp only at hSw); go_simp; (try with_reducible rfl)
        (try simp only [Act.put, List.setIfInBounds_toArray, List.set_cons_zero, List.set_cons_succ])
        refine wpAnyH_take (i := 41) (oi := ⟨some 4, _, _, _, _, _⟩) (v := ?_) rfl (by kernel_rfl) (by kernel_rfl) (by kernel_rfl) (fun _ _ _ h => hP _ _ _ _ _ h) (Or.inl ⟨by rfl, ?_⟩) (by assumption) ?_
        rotate_left
        ·intro wq hSw; (try dsimp only at hSw); go_simp; (try with_reducible rfl)
        (try simp only [Act.put, List.setIfInBounds_toArray, List.set_cons_zero, List.set_cons_succ])
        refine wpAnyH_done (by kernel_rfl) ?_ _
        exact hend _ _ _ _ _ _ _ _ _ _ _ _ _ _ _ _ _ _ _ _ _ _ _ _ _ _ _ _ _ _ _ _ _ _ _ _ _ _ _ _ _ _ _ _ _ _ _ _ (by (repeat' (first | with_reducible exact Kept.refl _ | with_reducible assumption | (go_split_ands; with_reducible assumption) | with_reducible refine kept_step (by with_reducible assumption) ?_ | with_reducible refine kept_drew ?_ | with_reducible refine kept_alloc ?_ _ | with_reducible refine kept_drewN ?_ _)))
       exact AllReadyH.nil
      exact AllReadyH.nil
     exact AllReadyH.nil
    exact AllReadyH.nil
   refine AllReadyH.cons (o := ⟨some 46, _, _, _, _, _⟩) rfl (fun K hK => ?_) ?_
   ·go_simp
    refine hK.out _ _ ?_ ?_
    ·(try dsimp only); ((refine mk_S bx bY ?_; (repeat' (first | with_reducible exact Kept.refl _ | with_reducible assumption | (go_split_ands; with_reducible assumption) | with_reducible refine kept_step (by with_reducible assumption) ?_ | with_reducible refine kept_drew ?_ | with_reducible refine kept_alloc ?_ _ | with_reducible refine kept_drewN ?_ _))))
    clear hK K hHeld; intro hHeld
    (try simp only [Act.put, List.setIfInBounds_toArray, List.set_cons_zero, List.set_cons_succ])
    refine wpAnyH_ready (rs := [31]) (by kernel_rfl) (by simp) ?_
    refine AllReadyH.cons (o := ⟨some 42, _, _, _, _, _⟩) rfl (fun K hK => ?_) ?_
    ·go_simp
     (go_at_call 22; first | (with_reducible refine (gcd_S bx bY (by (repeat' (first | with_reducible exact Kept.refl _ | with_reducible assumption | (go_split_ands; with_reducible assumption) | with_reducible refine kept_step (by with_reducible assumption) ?_ | with_reducible refine kept_drew ?_ | with_reducible refine kept_alloc ?_ _ | with_reducible refine kept_drewN ?_ _)))).mono ?_; rintro e w' ⟨ad, len, cap, zs, rfl, ho, hcn, hv, hg⟩) | (with_reducible refine (gcd_SX bx (by (repeat' (first | with_reducible exact Kept.refl _ | with_reducible assumption | (go_split_ands; with_reducible assumption) | with_reducible refine kept_step (by with_reducible assumption) ?_ | with_reducible refine kept_drew ?_ | with_reducible refine kept_alloc ?_ _ | with_reducible refine kept_drewN ?_ _)))).mono ?_; rintro e w' ⟨ad, len, cap, zs, rfl, ho, hcn, hv, hg⟩))
     (try go_wp2_with fail)
     refine hK.out _ _ ?_ ?_
     ·(try dsimp only); ((refine mk_S bx bY ?_; (repeat' (first | with_reducible exact Kept.refl _ | with_reducible assumption | (go_split_ands; with_reducible assumption) | with_reducible refine kept_step (by with_reducible assumption) ?_ | with_reducible refine kept_drew ?_ | with_reducible refine kept_alloc ?_ _ | with_reducible refine kept_drewN ?_ _))))
     clear hK K hHeld; intro hHeld
     (try simp only [Act.put, List.setIfInBounds_toArray, List.set_cons_zero, List.set_cons_succ])
     refine wpAnyH_ready (rs := [33]) (by kernel_rfl) (by simp) ?_
     refine AllReadyH.cons (o := ⟨some 44, _, _, _, _, _⟩) rfl (fun K hK => ?_) ?_
     ·go_simp
      (go_at_call 18; with_reducible refine (trim_S ra hla (by (repeat' (first | with_reducible exact Kept.refl _ | with_reducible assumption | (go_split_ands; with_reducible assumption) | with_reducible refine kept_step (by with_reducible assumption) ?_ | with_reducible refine kept_drew ?_ | with_reducible refine kept_alloc ?_ _ | with_reducible refine kept_drewN ?_ _)))).mono ?_; rintro e w' ⟨ad, len, cap, zs, rfl, ho, hcn, hv, hg⟩)
      (try go_wp2_with fail)
      refine hK.out _ _ ?_ ?_
      ·(try dsimp only); ((refine mk_S bx bY ?_; (repeat' (first | with_reducible exact Kept.refl _ | with_reducible assumption | (go_split_ands; with_reducible assumption) | with_reducible refine kept_step (by with_reducible assumption) ?_ | with_reducible refine kept_drew ?_ | with_reducible refine kept_alloc ?_ _ | with_reducible refine kept_drewN ?_ _))))
      clear hK K hHeld; intro hHeld
      (try simp only [Act.put, List.setIfInBounds_toArray, List.set_cons_zero, List.set_cons_succ])
      refine wpAnyH_ready (rs := [36]) (by kernel_rfl) (by simp) ?_
      refine AllReadyH.cons (o := ⟨some 47, _, _, _, _, _⟩) rfl (fun K hK => ?_) ?_
      ·go_simp
       (go_at_call 11; refine (is_two (w0 := w0) (by assumption) (by assumption) (by assumption) ?_ (by assumption) (by assumption) (by assumption) ?_ ?_ ?_ ?_ (by decide)).mono ?_; (all_goals (try ((repeat' (first | with_reducible exact Below.refl _ _ | with_reducible assumption | with_reducible refine grow_step (by with_reducible assumption) ?_ | with_reducible refine grow_drew ?_ | with_reducible refine grow_alloc ?_ _ | with_reducible refine grow_drewN ?_ _)); done))); (all_goals (try ((repeat' (first | with_reducible exact Kept.refl _ | with_reducible assumption | (go_split_ands; with_reducible assumption) | with_reducible refine kept_step (by with_reducible assumption) ?_ | with_reducible refine kept_drew ?_ | with_reducible refine kept_alloc ?_ _ | with_reducible refine kept_drewN ?_ _)); done))); with_reducible refine loans1 bx (by assumption) ?_ ?_ rfl ?_ ?_; (all_goals (try ((repeat' (first | with_reducible exact Kept.refl _ | with_reducible assumption | (go_split_ands; with_reducible assumption) | with_reducible refine kept_step (by with_reducible assumption) ?_ | with_reducible refine kept_drew ?_ | with_reducible refine kept_alloc ?_ _ | with_reducible refine kept_drewN ?_ _)); done))); (all_goals (try ((repeat' (first | with_reducible exact Below.refl _ _ | with_reducible assumption | with_reducible refine grow_step (by with_reducible assumption) ?_ | with_reducible refine grow_drew ?_ | with_reducible refine grow_alloc ?_ _ | with_reducible refine grow_drewN ?_ _)); done))); (first | (refine Or.inl ?_; focus ((repeat' (first | with_reducible exact Below.refl _ _ | with_reducible assumption | with_reducible refine grow_step (by with_reducible assumption) ?_ | with_reducible refine grow_drew ?_ | with_reducible refine grow_alloc ?_ _ | with_reducible refine grow_drewN ?_ _)); done)) | (refine Or.inr ?_; focus ((repeat' (first | with_reducible exact Below.refl _ _ | with_reducible assumption | with_reducible refine grow_step (by with_reducible assumption) ?_ | with_reducible refine grow_drew ?_ | with_reducible refine grow_alloc ?_ _ | with_reducible refine grow_drewN ?_ _)); done))); rintro e w' ⟨rfl, hk⟩)
       (try go_wp2_with fail)
       refine hK.out _ _ ?_ ?_
       ·(try dsimp only); ((refine mk_S bx bY ?_; (repeat' (first | with_reducible exact Kept.refl _ | with_reducible assumption | (go_split_ands; with_reducible assumption) | with_reducible refine kept_step (by with_reducible assumption) ?_ | with_reducible refine kept_drew ?_ | with_reducible refine kept_alloc ?_ _ | with_reducible refine kept_drewN ?_ _))))
       clear hK K hHeld; intro hHeld
       (try simp only [Act.put, List.setIfInBounds_toArray, List.set_cons_zero, List.set_cons_succ])
       refine wpAnyH_take (i := 37) (oi := ⟨some 48, _, _, _, _, _⟩) (v := ?_) rfl (by kernel_rfl) (by kernel_rfl) (by kernel_rfl) (fun _ _ _ h => hP _ _ _ _ _ h) (Or.inl ⟨by rfl, ?_⟩) (by assumption) ?_
       rotate_left
       ·intro wq hSw; (try dsimp only at hSw); go_simp; (try with_reducible rfl)
       (try simp only [Act.put, List.setIfInBounds_toArray, List.set_cons_zero, List.set_cons_succ])
       refine wpAnyH_take (i := 38) (oi := ⟨some 49, _, _, _, _, _⟩) (v := ?_) rfl (by kernel_rfl) (by kernel_rfl) (by kernel_rfl) (fun _ _ _ h => hP _ _ _ _ _ h) (Or.inl ⟨by rfl, ?_⟩) (by assumption) ?_
       rotate_left
       ·intro wq hSw; (try dsimp only at hSw); go_simp; (try with_reducible rfl)
       (try simp only [Act.put, List.setIfInBounds_toArray, List.set_cons_zero, List.set_cons_succ])
       refine wpAnyH_ready (rs := [39]) (by kernel_rfl) (by simp) ?_
       refine AllReadyH.cons (o := ⟨some 50, _, _, _, _, _⟩) rfl (fun K hK => ?_) ?_
       ·go_simp
        (go_at_call 16; refine (known_S tb (by (repeat' (first | with_reducible exact Kept.refl _ | with_reducible assumption | (go_split_ands; with_reducible assumption) | with_reducible refine kept_step (by with_reducible assumption) ?_ | with_reducible refine kept_drew ?_ | with_reducible refine kept_alloc ?_ _ | with_reducible refine kept_drewN ?_ _)))).mono ?_; rintro e w' ⟨rfl, hg⟩)
        (try go_wp2_with fail)
        refine hK.out _ _ ?_ ?_
        ·(try dsimp only); ((refine mk_S bx bY ?_; (repeat' (first | with_reducible exact Kept.refl _ | with_reducible assumption | (go_split_ands; with_reducible assumption) | with_reducible refine kept_step (by with_reducible assumption) ?_ | with_reducible refine kept_drew ?_ | with_reducible refine kept_alloc ?_ _ | with_reducible refine kept_drewN ?_ _))))
        clear hK K hHeld; intro hHeld
        (try simp only [Act.put, List.setIfInBounds_toArray, List.set_cons_zero, List.set_cons_succ])
        refine wpAnyH_take (i := 40) (oi := ⟨some 51, _, _, _, _, _⟩) (v := ?_) rfl (by kernel_rfl) (by kernel_rfl) (by kernel_rfl) (fun _ _ _ h => hP _ _ _ _ _ h) (Or.inl ⟨by rfl, ?_⟩) (by assumption) ?_
        rotate_left
        ·intro wq hSw; (try dsimp only at hSw); go_simp; (try with_reducible rfl)
        (try simp only [Act.put, List.setIfInBounds_toArray, List.set_cons_zero, List.set_cons_succ])
        refine wpAnyH_take (i := 41) (oi := ⟨some 4, _, _, _, _, _⟩) (v := ?_) rfl (by kernel_rfl) (by kernel_rfl) (by kernel_rfl) (fun _ _ _ h => hP _ _ _ _ _ h) (Or.inl ⟨by rfl, ?_⟩) (by assumption) ?_
        rotate_left
        ·intro wq hSw; (try dsimp only at hSw); go_simp; (try with_reducible rfl)
        (try simp only [Act.put, List.setIfInBounds_toArray, List.set_cons_zero, List.set_cons_succ])
        refine wpAnyH_done (by kernel_rfl) ?_ _
        exact hend _ _ _ _ _ _ _ _ _ _ _ _ _ _ _ _ _ _ _ _ _ _ _ _ _ _ _ _ _ _ _ _ _ _ _ _ _ _ _ _ _ _ _ _ _ _ _ _ (by (repeat' (first | with_reducible exact Kept.refl _ | with_reducible assumption | (go_split_ands; with_reducible assumption) | with_reducible refine kept_step (by with_reducible assumption) ?_ | with_reducible refine kept_drew ?_ | with_reducible refine kept_alloc ?_ _ | with_reducible refine kept_drewN ?_ _)))
       exact AllReadyH.nil
      exact AllReadyH.nil
     exact AllReadyH.nil
    exact AllReadyH.nil
   exact AllReadyH.nil
  refine AllReadyH.cons (o := ⟨some 46, _, _, _, _, _⟩) rfl (fun K hK => ?_) ?_
  ·go_simp
   refine hK.out _ _ ?_ ?_
   ·(try dsimp only); ((refine mk_S bx bY ?_; (repeat' (first | with_reducible exact Kept.refl _ | with_reducible assumption | (go_split_ands; with_reducible assumption) | with_reducible refine kept_step (by with_reducible assumption) ?_ | with_reducible refine kept_drew ?_ | with_reducible refine kept_alloc ?_ _ | with_reducible refine kept_drewN ?_ _))))
   clear hK K hHeld; intro hHeld
   (try simp only [Act.put, List.setIfInBounds_toArray, List.set_cons_zero, List.set_cons_succ])
   refine wpAnyH_ready (rs := [30]) (by kernel_rfl) (by simp) ?_
   refine AllReadyH.cons (o := ⟨some 41, _, _, _, _, _⟩) rfl (fun K hK => ?_) ?_
   ·go_simp
    (go_at_call 10; refine (list_any (by omega)).mono ?_; rintro e w' ⟨rfl, hg⟩)
    (try go_wp2_with fail)
    refine hK.out _ _ ?_ ?_
    ·(try dsimp only); ((refine mk_S bx bY ?_; (repeat' (first | with_reducible exact Kept.refl _ | with_reducible assumption | (go_split_ands; with_reducible assumption) | with_reducible refine kept_step (by with_reducible assumption) ?_ | with_reducible refine kept_drew ?_ | with_reducible refine kept_alloc ?_ _ | with_reducible refine kept_drewN ?_ _))))
    clear hK K hHeld; intro hHeld
    (try simp only [Act.put, List.setIfInBounds_toArray, List.set_cons_zero, List.set_cons_succ])
    refine wpAnyH_ready (rs := [31]) (by kernel_rfl) (by simp) ?_
    refine AllReadyH.cons (o := ⟨some 42, _, _, _, _, _⟩) rfl (fun K hK => ?_) ?_
    ·go_simp
     (go_at_call 22; first | (with_reducible refine (gcd_S bx bY (by (repeat' (first | with_reducible exact Kept.refl _ | with_reducible assumption | (go_split_ands; with_reducible assumption) | with_reducible refine kept_step (by with_reducible assumption) ?_ | with_reducible refine kept_drew ?_ | with_reducible refine kept_alloc ?_ _ | with_reducible refine kept_drewN ?_ _)))).mono ?_; rintro e w' ⟨ad, len, cap, zs, rfl, ho, hcn, hv, hg⟩) | (with_reducible refine (gcd_SX bx (by (repeat' (first | with_reducible exact Kept.refl _ | with_reducible assumption | (go_split_ands; with_reducible assumption) | with_reducible refine kept_step (by with_reducible assumption) ?_ | with_reducible refine kept_drew ?_ | with_reducible refine kept_alloc ?_ _ | with_reducible refine kept_drewN ?_ _)))).mono ?_; rintro e w' ⟨ad, len, cap, zs, rfl, ho, hcn, hv, hg⟩))
     (try go_wp2_with fail)
     refine hK.out _ _ ?_ ?_
     ·(try dsimp only); ((refine mk_S bx bY ?_; (repeat' (first | with_reducible exact Kept.refl _ | with_reducible assumption | (go_split_ands; with_reducible assumption) | with_reducible refine kept_step (by with_reducible assumption) ?_ | with_reducible refine kept_drew ?_ | with_reducible refine kept_alloc ?_ _ | with_reducible refine kept_drewN ?_ _))))
     clear hK K hHeld; intro hHeld
     (try simp only [Act.put, List.setIfInBounds_toArray, List.set_cons_zero, List.set_cons_succ])
     refine wpAnyH_ready (rs := [33]) (by kernel_rfl) (by simp) ?_
     refine AllReadyH.cons (o := ⟨some 44, _, _, _, _, _⟩) rfl (fun K hK => ?_) ?_
     ·go_simp
      (go_at_call 18; with_reducible refine (trim_S ra hla (by (repeat' (first | with_reducible exact Kept.refl _ | with_reducible assumption | (go_split_ands; with_reducible assumption) | with_reducible refine kept_step (by with_reducible assumption) ?_ | with_reducible refine kept_drew ?_ | with_reducible refine kept_alloc ?_ _ | with_reducible refine kept_drewN ?_ _)))).mono ?_; rintro e w' ⟨ad, len, cap, zs, rfl, ho, hcn, hv, hg⟩)
      (try go_wp2_with fail)
      refine hK.out _ _ ?_ ?_
      ·(try dsimp only); ((refine mk_S bx bY ?_; (repeat' (first | with_reducible exact Kept.refl _ | with_reducible assumption | (go_split_ands; with_reducible assumption) | with_reducible refine kept_step (by with_reducible assumption) ?_ | with_reducible refine kept_drew ?_ | with_reducible refine kept_alloc ?_ _ | with_reducible refine kept_drewN ?_ _))))
      clear hK K hHeld; intro hHeld
      (try simp only [Act.put, List.setIfInBounds_toArray, List.set_cons_zero, List.set_cons_succ])
      refine wpAnyH_ready (rs := [36]) (by kernel_rfl) (by simp) ?_
      refine AllReadyH.cons (o := ⟨some 47, _, _, _, _, _⟩) rfl (fun K hK => ?_) ?_
      ·go_simp
       (go_at_call 11; refine (is_two (w0 := w0) (by assumption) (by assumption) (by assumption) ?_ (by assumption) (by assumption) (by assumption) ?_ ?_ ?_ ?_ (by decide)).mono ?_; (all_goals (try ((repeat' (first | with_reducible exact Below.refl _ _ | with_reducible assumption | with_reducible refine grow_step (by with_reducible assumption) ?_ | with_reducible refine grow_drew ?_ | with_reducible refine grow_alloc ?_ _ | with_reducible refine grow_drewN ?_ _)); done))); (all_goals (try ((repeat' (first | with_reducible exact Kept.refl _ | with_reducible assumption | (go_split_ands; with_reducible assumption) | with_reducible refine kept_step (by with_reducible assumption) ?_ | with_reducible refine kept_drew ?_ | with_reducible refine kept_alloc ?_ _ | with_reducible refine kept_drewN ?_ _)); done))); with_reducible refine loans1 bx (by assumption) ?_ ?_ rfl ?_ ?_; (all_goals (try ((repeat' (first | with_reducible exact Kept.refl _ | with_reducible assumption | (go_split_ands; with_reducible assumption) | with_reducible refine kept_step (by with_reducible assumption) ?_ | with_reducible refine kept_drew ?_ | with_reducible refine kept_alloc ?_ _ | with_reducible refine kept_drewN ?_ _)); done))); (all_goals (try ((repeat' (first | with_reducible exact Below.refl _ _ | with_reducible assumption | with_reducible refine grow_step (by with_reducible assumption) ?_ | with_reducible refine grow_drew ?_ | with_reducible refine grow_alloc ?_ _ | with_reducible refine grow_drewN ?_ _)); done))); (first | (refine Or.inl ?_; focus ((repeat' (first | with_reducible exact Below.refl _ _ | with_reducible assumption | with_reducible refine grow_step (by with_reducible assumption) ?_ | with_reducible refine grow_drew ?_ | with_reducible refine grow_alloc ?_ _ | with_reducible refine grow_drewN ?_ _)); done)) | (refine Or.inr ?_; focus ((repeat' (first | with_reducible exact Below.refl _ _ | with_reducible assumption | with_reducible refine grow_step (by with_reducible assumption) ?_ | with_reducible refine grow_drew ?_ | with_reducible refine grow_alloc ?_ _ | with_reducible refine grow_drewN ?_ _)); done))); rintro e w' ⟨rfl, hk⟩)
       (try go_wp2_with fail)
       refine hK.out _ _ ?_ ?_
       ·(try dsimp only); ((refine mk_S bx bY ?_; (repeat' (first | with_reducible exact Kept.refl _ | with_reducible assumption | (go_split_ands; with_reducible assumption) | with_reducible refine kept_step (by with_reducible assumption) ?_ | with_reducible refine kept_drew ?_ | with_reducible refine kept_alloc ?_ _ | with_reducible refine kept_drewN ?_ _))))
       clear hK K hHeld; intro hHeld
       (try simp only [Act.put, List.setIfInBounds_toArray, List.set_cons_zero, List.set_cons_succ])
       refine wpAnyH_take (i := 37) (oi := ⟨some 48, _, _, _, _, _⟩) (v := ?_) rfl (by kernel_rfl) (by kernel_rfl) (by kernel_rfl) (fun _ _ _ h => hP _ _ _ _ _ h) (Or.inl ⟨by rfl, ?_⟩) (by assumption) ?_
       rotate_left
       ·intro wq hSw; (try dsimp only at hSw); go_simp; (try with_reducible rfl)
       (try simp only [Act.put, List.setIfInBounds_toArray, List.set_cons_zero, List.set_cons_succ])
       refine wpAnyH_take (i := 38) (oi := ⟨some 49, _, _, _, _, _⟩) (v := ?_) rfl (by kernel_rfl) (by kernel_rfl) (by kernel_rfl) (fun _ _ _ h => hP _ _ _ _ _ h) (Or.inl ⟨by rfl, ?_⟩) (by assumption) ?_
       rotate_left
       ·intro wq hSw; (try dsimp only at hSw); go_simp; (try with_reducible rfl)
       (try simp only [Act.put, List.setIfInBounds_toArray, List.set_cons_zero, List.set_cons_succ])
       refine wpAnyH_ready (rs := [39]) (by kernel_rfl) (by simp) ?_
       refine AllReadyH.cons (o := ⟨some 50, _, _, _, _, _⟩) rfl (fun K hK => ?_) ?_
       ·go_simp
        (go_at_call 16; refine (known_S tb (by (repeat' (first | with_reducible exact Kept.refl _ | with_reducible assumption | (go_split_ands; with_reducible assumption) | with_reducible refine kept_step (by with_reducible assumption) ?_ | with_reducible refine kept_drew ?_ | with_reducible refine kept_alloc ?_ _ | with_reducible refine kept_drewN ?_ _)))).mono ?_; rintro e w' ⟨rfl, hg⟩)
        (try go_wp2_with fail)
        refine hK.out _ _ ?_ ?_
        ·(try dsimp only); ((refine mk_S bx bY ?_; (repeat' (first | with_reducible exact Kept.refl _ | with_reducible assumption | (go_split_ands; with_reducible assumption) | with_reducible refine kept_step (by with_reducible assumption) ?_ | with_reducible refine kept_drew ?_ | with_reducible refine kept_alloc ?_ _ | with_reducible refine kept_drewN ?_ _))))
        clear hK K hHeld; intro hHeld
        (try simp only [Act.put, List.setIfInBounds_toArray, List.set_cons_zero, List.set_cons_succ])
        refine wpAnyH_take (i := 40) (oi := ⟨some 51, _, _, _, _, _⟩) (v := ?_) rfl (by kernel_rfl) (by kernel_rfl) (by kernel_rfl) (fun _ _ _ h => hP _ _ _ _ _ h) (Or.inl ⟨by rfl, ?_⟩) (by assumption) ?_
        rotate_left
        ·intro wq hSw; (try dsimp only at hSw); go_simp; (try with_reducible rfl)
        (try simp only [Act.put, List.setIfInBounds_toArray, List.set_cons_zero, List.set_cons_succ])
        refine wpAnyH_take (i := 41) (oi := ⟨some 4, _, _, _, _, _⟩) (v := ?_) rfl (by kernel_rfl) (by kernel_rfl) (by kernel_rfl) (fun _ _ _ h => hP _ _ _ _ _ h) (Or.inl ⟨by rfl, ?_⟩) (by assumption) ?_
        rotate_left
        ·intro wq hSw; (try dsimp only at hSw); go_simp; (try with_reducible rfl)
        (try simp only [Act.put, List.setIfInBounds_toArray, List.set_cons_zero, List.set_cons_succ])
        refine wpAnyH_done (by kernel_rfl) ?_ _
        exact hend _ _ _ _ _ _ _ _ _ _ _ _ _ _ _ _ _ _ _ _ _ _ _ _ _ _ _ _ _ _ _ _ _ _ _ _ _ _ _ _ _ _ _ _ _ _ _ _ (by (repeat' (first | with_reducible exact Kept.refl _ | with_reducible assumption | (go_split_ands; with_reducible assumption) | with_reducible refine kept_step (by with_reducible assumption) ?_ | with_reducible refine kept_drew ?_ | with_reducible refine kept_alloc ?_ _ | with_reducible refine kept_drewN ?_ _)))
       exact AllReadyH.nil
      exact AllReadyH.nil
     exact AllReadyH.nil
    exact AllReadyH.nil
   exact AllReadyH.nil
  exact AllReadyH.nil
 refine AllReadyH.cons (o := ⟨some 46, _, _, _, _, _⟩) rfl (fun K hK => ?_) ?_
 ·go_simp
  refine hK.out _ _ ?_ ?_
  ·(try dsimp only); ((refine mk_S bx bY ?_; (repeat' (first | with_reducible exact Kept.refl _ | with_reducible assumption | (go_split_ands; with_reducible assumption) | with_reducible refine kept_step (by with_reducible assumption) ?_ | with_reducible refine kept_drew ?_ | with_reducible refine kept_alloc ?_ _ | with_reducible refine kept_drewN ?_ _))))
  clear hK K hHeld; intro hHeld
  (try simp only [Act.put, List.setIfInBounds_toArray, List.set_cons_zero, List.set_cons_succ])
  refine wpAnyH_ready (rs := [28]) (by kernel_rfl) (by simp) ?_
  refine AllReadyH.cons (o := ⟨some 39, _, _, _, _, _⟩) rfl (fun K hK => ?_) ?_
  ·go_simp
   (go_at_call 10; refine (list_any (by omega)).mono ?_; rintro e w' ⟨rfl, hg⟩)
   (try go_wp2_with fail)
   refine hK.out _ _ ?_ ?_
   ·(try dsimp only); ((refine mk_S bx bY ?_; (repeat' (first | with_reducible exact Kept.refl _ | with_reducible assumption | (go_split_ands; with_reducible assumption) | with_reducible refine kept_step (by with_reducible assumption) ?_ | with_reducible refine kept_drew ?_ | with_reducible refine kept_alloc ?_ _ | with_reducible refine kept_drewN ?_ _))))
   clear hK K hHeld; intro hHeld
   (try simp only [Act.put, List.setIfInBounds_toArray, List.set_cons_zero, List.set_cons_succ])
   refine wpAnyH_ready (rs := [30]) (by kernel_rfl) (by simp) ?_
   refine AllReadyH.cons (o := ⟨some 41, _, _, _, _, _⟩) rfl (fun K hK => ?_) ?_
   ·go_simp
    (go_at_call 10; refine (list_any (by omega)).mono ?_; rintro e w' ⟨rfl, hg⟩)
    (try go_wp2_with fail)
    refine hK.out _ _ ?_ ?_
    ·(try dsimp only); ((refine mk_S bx bY ?_; (repeat' (first | with_reducible exact Kept.refl _ | with_reducible assumption | (go_split_ands; with_reducible assumption) | with_reducible refine kept_step (by with_reducible assumption) ?_ | with_reducible refine kept_drew ?_ | with_reducible refine kept_alloc ?_ _ | with_reducible refine kept_drewN ?_ _))))
    clear hK K hHeld; intro hHeld
    (try simp only [Act.put, List.setIfInBounds_toArray, List.set_cons_zero, List.set_cons_succ])
    refine wpAnyH_ready (rs := [31]) (by kernel_rfl) (by simp) ?_
    refine AllReadyH.cons (o := ⟨some 42, _, _, _, _, _⟩) rfl (fun K hK => ?_) ?_
    ·go_simp
     (go_at_call 22; first | (with_reducible refine (gcd_S bx bY (by (repeat' (first | with_reducible exact Kept.refl _ | with_reducible assumption | (go_split_ands; with_reducible assumption) | with_reducible refine kept_step (by with_reducible assumption) ?_ | with_reducible refine kept_drew ?_ | with_reducible refine kept_alloc ?_ _ | with_reducible refine kept_drewN ?_ _)))).mono ?_; rintro e w' ⟨ad, len, cap, zs, rfl, ho, hcn, hv, hg⟩) | (with_reducible refine (gcd_SX bx (by (repeat' (first | with_reducible exact Kept.refl _ | with_reducible assumption | (go_split_ands; with_reducible assumption) | with_reducible refine kept_step (by with_reducible assumption) ?_ | with_reducible refine kept_drew ?_ | with_reducible refine kept_alloc ?_ _ | with_reducible refine kept_drewN ?_ _)))).mono ?_; rintro e w' ⟨ad, len, cap, zs, rfl, ho, hcn, hv, hg⟩))
     (try go_wp2_with fail)
     refine hK.out _ _ ?_ ?_
     ·(try dsimp only); ((refine mk_S bx bY ?_; (repeat' (first | with_reducible exact Kept.refl _ | with_reducible assumption | (go_split_ands; with_reducible assumption) | with_reducible refine kept_step (by with_reducible assumption) ?_ | with_reducible refine kept_drew ?_ | with_reducible refine kept_alloc ?_ _ | with_reducible refine kept_drewN ?_ _))))
     clear hK K hHeld; intro hHeld
     (try simp only [Act.put, List.setIfInBounds_toArray, List.set_cons_zero, List.set_cons_succ])
     refine wpAnyH_ready (rs := [33]) (by kernel_rfl) (by simp) ?_
     refine AllReadyH.cons (o := ⟨some 44, _, _, _, _, _⟩) rfl (fun K hK => ?_) ?_
     ·go_simp
      (go_at_call 18; with_reducible refine (trim_S ra hla (by (repeat' (first | with_reducible exact Kept.refl _ | with_reducible assumption | (go_split_ands; with_reducible assumption) | with_reducible refine kept_step (by with_reducible assumption) ?_ | with_reducible refine kept_drew ?_ | with_reducible refine kept_alloc ?_ _ | with_reducible refine kept_drewN ?_ _)))).mono ?_; rintro e w' ⟨ad, len, cap, zs, rfl, ho, hcn, hv, hg⟩)
      (try go_wp2_with fail)
      refine hK.out _ _ ?_ ?_
      ·(try dsimp only); ((refine mk_S bx bY ?_; (repeat' (first | with_reducible exact Kept.refl _ | with_reducible assumption | (go_split_ands; with_reducible assumption) | with_reducible refine kept_step (by with_reducible assumption) ?_ | with_reducible refine kept_drew ?_ | with_reducible refine kept_alloc ?_ _ | with_reducible refine kept_drewN ?_ _))))
      clear hK K hHeld; intro hHeld
      (try simp only [Act.put, List.setIfInBounds_toArray, List.set_cons_zero, List.set_cons_succ])
      refine wpAnyH_ready (rs := [36]) (by kernel_rfl) (by simp) ?_
      refine AllReadyH.cons (o := ⟨some 47, _, _, _, _, _⟩) rfl (fun K hK => ?_) ?_
      ·go_simp
       (go_at_call 11; refine (is_two (w0 := w0) (by assumption) (by assumption) (by assumption) ?_ (by assumption) (by assumption) (by assumption) ?_ ?_ ?_ ?_ (by decide)).mono ?_; (all_goals (try ((repeat' (first | with_reducible exact Below.refl _ _ | with_reducible assumption | with_reducible refine grow_step (by with_reducible assumption) ?_ | with_reducible refine grow_drew ?_ | with_reducible refine grow_alloc ?_ _ | with_reducible refine grow_drewN ?_ _)); done))); (all_goals (try ((repeat' (first | with_reducible exact Kept.refl _ | with_reducible assumption | (go_split_ands; with_reducible assumption) | with_reducible refine kept_step (by with_reducible assumption) ?_ | with_reducible refine kept_drew ?_ | with_reducible refine kept_alloc ?_ _ | with_reducible refine kept_drewN ?_ _)); done))); with_reducible refine loans1 bx (by assumption) ?_ ?_ rfl ?_ ?_; (all_goals (try ((repeat' (first | with_reducible exact Kept.refl _ | with_reducible assumption | (go_split_ands; with_reducible assumption) | with_reducible refine kept_step (by with_reducible assumption) ?_ | with_reducible refine kept_drew ?_ | with_reducible refine kept_alloc ?_ _ | with_reducible refine kept_drewN ?_ _)); done))); (all_goals (try ((repeat' (first | with_reducible exact Below.refl _ _ | with_reducible assumption | with_reducible refine grow_step (by with_reducible assumption) ?_ | with_reducible refine grow_drew ?_ | with_reducible refine grow_alloc ?_ _ | with_reducible refine grow_drewN ?_ _)); done))); (first | (refine Or.inl ?_; focus ((repeat' (first | with_reducible exact Below.refl _ _ | with_reducible assumption | with_reducible refine grow_step (by with_reducible assumption) ?_ | with_reducible refine grow_drew ?_ | with_reducible refine grow_alloc ?_ _ | with_reducible refine grow_drewN ?_ _)); done)) | (refine Or.inr ?_; focus ((repeat' (first | with_reducible exact Below.refl _ _ | with_reducible assumption | with_reducible refine grow_step (by with_reducible assumption) ?_ | with_reducible refine grow_drew ?_ | with_reducible refine grow_alloc ?_ _ | with_reducible refine grow_drewN ?_ _)); done))); rintro e w' ⟨rfl, hk⟩)
       (try go_wp2_with fail)
       refine hK.out _ _ ?_ ?_
       ·(try dsimp only); ((refine mk_S bx bY ?_; (repeat' (first | with_reducible exact Kept.refl _ | with_reducible assumption | (go_split_ands; with_reducible assumption) | with_reducible refine kept_step (by with_reducible assumption) ?_ | with_reducible refine kept_drew ?_ | with_reducible refine kept_alloc ?_ _ | with_reducible refine kept_drewN ?_ _))))
       clear hK K hHeld; intro hHeld
       (try simp only [Act.put, List.setIfInBounds_toArray, List.set_cons_zero, List.set_cons_succ])
       refine wpAnyH_take (i := 37) (oi := ⟨some 48, _, _, _, _, _⟩) (v := ?_) rfl (by kernel_rfl) (by kernel_rfl) (by kernel_rfl) (fun _ _ _ h => hP _ _ _ _ _ h) (Or.inl ⟨by rfl, ?_⟩) (by assumption) ?_
       rotate_left
       ·intro wq hSw; (try dsimp only at hSw); go_simp; (try with_reducible rfl)
       (try simp only [Act.put, List.setIfInBounds_toArray, List.set_cons_zero, List.set_cons_succ])
       refine wpAnyH_take (i := 38) (oi := ⟨some 49, _, _, _, _, _⟩) (v := ?_) rfl (by kernel_rfl) (by kernel_rfl) (by kernel_rfl) (fun _ _ _ h => hP _ _ _ _ _ h) (Or.inl ⟨by rfl, ?_⟩) (by assumption) ?_
       rotate_left
       ·intro wq hSw; (try dsimp only at hSw); go_simp; (try with_reducible rfl)
       (try simp only [Act.put, List.setIfInBounds_toArray, List.set_cons_zero, List.set_cons_succ])
       refine wpAnyH_ready (rs := [39]) (by kernel_rfl) (by simp) ?_
       refine AllReadyH.cons (o := ⟨some 50, _, _, _, _, _⟩) rfl (fun K hK => ?_) ?_
       ·go_simp
        (go_at_call 16; refine (known_S tb (by (repeat' (first | with_reducible exact Kept.refl _ | with_reducible assumption | (go_split_ands; with_reducible assumption) | with_reducible refine kept_step (by with_reducible assumption) ?_ | with_reducible refine kept_drew ?_ | with_reducible refine kept_alloc ?_ _ | with_reducible refine kept_drewN ?_ _)))).mono ?_; rintro e w' ⟨rfl, hg⟩)
        (try go_wp2_with fail)
        refine hK.out _ _ ?_ ?_
        ·(try dsimp only); ((refine mk_S bx bY ?_; (repeat' (first | with_reducible exact Kept.refl _ | with_reducible assumption | (go_split_ands; with_reducible assumption) | with_reducible refine kept_step (by with_reducible assumption) ?_ | with_reducible refine kept_drew ?_ | with_reducible refine kept_alloc ?_ _ | with_reducible refine kept_drewN ?_ _))))
        clear hK K hHeld; intro hHeld
        (try simp only [Act.put, List.setIfInBounds_toArray, List.set_cons_zero, List.set_cons_succ])
        refine wpAnyH_take (i := 40) (oi := ⟨some 51, _, _, _, _, _⟩) (v := ?_) rfl (by kernel_rfl) (by kernel_rfl) (by kernel_rfl) (fun _ _ _ h => hP _ _ _ _ _ h) (Or.inl ⟨by rfl, ?_⟩) (by assumption) ?_
        rotate_left
        ·intro wq hSw; (try dsimp only at hSw); go_simp; (try with_reducible rfl)
        (try simp only [Act.put, List.setIfInBounds_toArray, List.set_cons_zero, List.set_cons_succ])
        refine wpAnyH_take (i := 41) (oi := ⟨some 4, _, _, _, _, _⟩) (v := ?_) rfl (by kernel_rfl) (by kernel_rfl) (by kernel_rfl) (fun _ _ _ h => hP _ _ _ _ _ h) (Or.inl ⟨by rfl, ?_⟩) (by assumption) ?_
        rotate_left
        ·intro wq hSw; (try dsimp only at hSw); go_simp; (try with_reducible rfl)
        (try simp only [Act.put, List.setIfInBounds_toArray, List.set_cons_zero, List.set_cons_succ])
        refine wpAnyH_done (by kernel_rfl) ?_ _
        exact hend _ _ _ _ _ _ _ _ _ _ _ _ _ _ _ _ _ _ _ _ _ _ _ _ _ _ _ _ _ _ _ _ _ _ _ _ _ _ _ _ _ _ _ _ _ _ _ _ (by (repeat' (first | with_reducible exact Kept.refl _ | with_reducible assumption | (go_split_ands; with_reducible assumption) | with_reducible refine kept_step (by with_reducible assumption) ?_ | with_reducible refine kept_drew ?_ | with_reducible refine kept_alloc ?_ _ | with_reducible refine kept_drewN ?_ _)))
       exact AllReadyH.nil
      exact AllReadyH.nil
     exact AllReadyH.nil
    exact AllReadyH.nil
   exact AllReadyH.nil
  exact AllReadyH.nil
 exact AllReadyH.nil
set_option maxRecDepth 100000 in
set_option maxHeartbeats 3200000 in
theorem natDivisors_c2 {aa ab : Option Addr} {la ca lb cb : Nat} {xs ys : List Int} {w0 wc : World} {p q f1 g1 f2 g2 : Nat} {F1 F2 : List Int} {Q : Exit → Act → World → Prop} (hla : la ≤ 1048576) (hlb : lb ≤ 1048576) (bx : Box w0 p f1 g1 la xs F1) (bY : Box w0 q f2 g2 lb ys F2) (ra : Rd w0 aa la ca xs) (rb : Rd w0 ab lb cb ys) (tb : Tab w0) (hP : ∀ c a d v w, Q (.panic c) (Act.put a d v) w → Q (.panic c) a w) (hend : ∀ (u2 u3 u7 u8 u9 u10 u11 u12 u13 u14 u15 u16 u17 u18 u19 u20 u21 u22 u23 u24 u25 u26 u27 u28 u29 u30 u31 u32 u33 u34 u35 u36 u37 u38 u39 u40 u41 u42 u43 u44 u45 u46 u47 u48 u49 u50 u51 : Value) (w' : World), Kept w0 w' → Q .normal ⟨#[.slice aa la ca, .slice ab lb cb, u2, u3, .bool true, .pointer (some ⟨p, 0, none⟩), .pointer (some ⟨q, 0, none⟩), u7, u8, u9, u10, u11, u12, u13, u14, u15, u16, u17, u18, u19, u20, u21, u22, u23, u24, u25, u26, u27, u28, u29, u30, u31, u32, u33, u34, u35, u36, u37, u38, u39, u40, u41, u42, u43, u44, u45, u46, u47, u48, u49, u50, u51], []⟩ w') (hcut : Kept w0 wc) (u2 u3 u4 u7 u8 u9 u10 u11 u12 u13 u14 u15 u16 u17 u18 u19 u20 u21 u22 u24 u25 u26 u27 u28 u29 u30 u31 u32 u33 u34 u35 u36 u37 u38 u39 u40 u41 u42 u43 u44 u45 u46 u47 u48 u49 u50 u51 : Value) :
  regAny Tryd.prog (natDivisorsTailAt Tryd.f5) Q (fun w' => w'.cell? ⟨p, 0, none⟩ = some (.slice (some ⟨f1, 0, none⟩) (la + 4) (la + 4)) ∧ w'.cell? ⟨p, 1, none⟩ = some (.int .i64 la) ∧ w'.cell? ⟨p, 2, none⟩ = some (.slice (some ⟨g1, 0, none⟩) (la + 4) (la + 4)) ∧ w'.cell? ⟨q, 0, none⟩ = some (.slice (some ⟨f2, 0, none⟩) (lb + 4) (lb + 4)) ∧ w'.cell? ⟨q, 1, none⟩ = some (.int .i64 lb) ∧ w'.cell? ⟨q, 2, none⟩ = some (.slice (some ⟨g2, 0, none⟩) (lb + 4) (lb + 4)) ∧ Kept w0 w') 29 (upTo 13 29) ⟨#[.slice aa la ca, .slice ab lb cb, u2, u3, u4, .pointer (some ⟨p, 0, none⟩), .pointer (some ⟨q, 0, none⟩), u7, u8, u9, u10, u11, u12, u13, u14, u15, u16, u17, u18, u19, u20, u21, u22, .bool true, u24, u25, u26, u27, u28, u29, u30, u31, u32, u33, u34, u35, u36, u37, u38, u39, u40, u41, u42, u43, u44, u45, u46, u47, u48, u49, u50, u51], []⟩ wc := by
 have hn1 : (0 : Int) ≤ (la : Int) := by omega
 have hn2 : (0 : Int) ≤ (lb : Int) := by omega
 have hHeld : (fun w' => w'.cell? ⟨p, 0, none⟩ = some (.slice (some ⟨f1, 0, none⟩) (la + 4) (la + 4)) ∧ w'.cell? ⟨p, 1, none⟩ = some (.int .i64 la) ∧ w'.cell? ⟨p, 2, none⟩ = some (.slice (some ⟨g1, 0, none⟩) (la + 4) (la + 4)) ∧ w'.cell? ⟨q, 0, none⟩ = some (.slice (some ⟨f2, 0, none⟩) (lb + 4) (lb + 4)) ∧ w'.cell? ⟨q, 1, none⟩ = some (.int .i64 lb) ∧ w'.cell? ⟨q, 2, none⟩ = some (.slice (some ⟨g2, 0, none⟩) (lb + 4) (lb + 4)) ∧ Kept w0 w') wc := by ((refine mk_S bx bY ?_; (repeat' (first | with_reducible exact Kept.refl _ | with_reducible assumption | (go_split_ands; with_reducible assumption) | with_reducible refine kept_step (by with_reducible assumption) ?_ | with_reducible refine kept_drew ?_ | with_reducible refine kept_alloc ?_ _ | with_reducible refine kept_drewN ?_ _))))
 conv => arg 2; whnf
 dsimp only [regAny]
 refine wpAnyH_take (i := 13) (oi := ⟨some 24, _, _, _, _, _⟩) (v := ?_) rfl (by kernel_rfl) (by kernel_rfl) (by kernel_rfl) (fun _ _ _ h => hP _ _ _ _ _ h) (Or.inl ⟨by rfl, ?_⟩) (by assumption) ?_
 rotate_left
 ·intro wq hSw; (try dsimp only at hSw); go_simp; (try with_reducible rfl)
 (try simp only [Act.put, List.setIfInBounds_toArray, List.set_cons_zero, List.set_cons_succ])
 refine wpAnyH_take (i := 15) (oi := ⟨some 26, _, _, _, _, _⟩) (v := ?_) rfl (by kernel_rfl) (by kernel_rfl) (by kernel_rfl) (fun _ _ _ h => hP _ _ _ _ _ h) (Or.inl ⟨by rfl, ?_⟩) (by assumption) ?_
 rotate_left
 ·intro wq hSw; (try dsimp only at hSw); go_simp; (try with_reducible rfl)
 (try simp only [Act.put, List.setIfInBounds_toArray, List.set_cons_zero, List.set_cons_succ])
 refine wpAnyH_take (i := 18) (oi := ⟨some 29, _, _, _, _, _⟩) (v := ?_) rfl (by kernel_rfl) (by kernel_rfl) (by kernel_rfl) (fun _ _ _ h => hP _ _ _ _ _ h) (Or.inl ⟨by rfl, ?_⟩) (by assumption) ?_
 rotate_left
 ·intro wq hSw; (try dsimp only at hSw); go_simp; (try with_reducible rfl)
 (try simp only [Act.put, List.setIfInBounds_toArray, List.set_cons_zero, List.set_cons_succ])
 refine wpAnyH_take (i := 19) (oi := ⟨some 30, _, _, _, _, _⟩) (v := ?_) rfl (by kernel_rfl) (by kernel_rfl) (by kernel_rfl) (fun _ _ _ h => hP _ _ _ _ _ h) (Or.inl ⟨by rfl, ?_⟩) (by assumption) ?_
 rotate_left
 ·intro wq hSw; (try dsimp only at hSw); go_simp; (try with_reducible rfl)
 (try simp only [Act.put, List.setIfInBounds_toArray, List.set_cons_zero, List.set_cons_succ])
 refine wpAnyH_take (i := 21) (oi := ⟨some 32, _, _, _, _, _⟩) (v := ?_) rfl (by kernel_rfl) (by kernel_rfl) (by kernel_rfl) (fun _ _ _ h => hP _ _ _ _ _ h) (Or.inl ⟨by rfl, ?_⟩) (by assumption) ?_
 rotate_left
 ·intro wq hSw; (try dsimp only at hSw); go_simp; (try with_reducible rfl)
 (try simp only [Act.put, List.setIfInBounds_toArray, List.set_cons_zero, List.set_cons_succ])
 refine wpAnyH_take (i := 22) (oi := ⟨some 33, _, _, _, _, _⟩) (v := ?_) rfl (by kernel_rfl) (by kernel_rfl) (by kernel_rfl) (fun _ _ _ h => hP _ _ _ _ _ h) (Or.inl ⟨by rfl, ?_⟩) (by assumption) ?_
 rotate_left
 ·intro wq hSw; (try dsimp only at hSw); go_simp; (try with_reducible rfl)
 (try simp only [Act.put, List.setIfInBounds_toArray, List.set_cons_zero, List.set_cons_succ])
 refine wpAnyH_ready (rs := [14, 23]) (by kernel_rfl) (by simp) ?_
 refine AllReadyH.cons (o := ⟨some 25, _, _, _, _, _⟩) rfl (fun K hK => ?_) ?_
 ·go_simp
  (go_at_call 10; refine (list_any (by omega)).mono ?_; rintro e w' ⟨rfl, hg⟩)
  (try go_wp2_with fail)
  refine hK.out _ _ ?_ ?_
  ·(try dsimp only); ((refine mk_S bx bY ?_; (repeat' (first | with_reducible exact Kept.refl _ | with_reducible assumption | (go_split_ands; with_reducible assumption) | with_reducible refine kept_step (by with_reducible assumption) ?_ | with_reducible refine kept_drew ?_ | with_reducible refine kept_alloc ?_ _ | with_reducible refine kept_drewN ?_ _))))
  clear hK K hHeld; intro hHeld
  (try simp only [Act.put, List.setIfInBounds_toArray, List.set_cons_zero, List.set_cons_succ])
  refine wpAnyH_ready (rs := [16, 23]) (by kernel_rfl) (by simp) ?_
  refine AllReadyH.cons (o := ⟨some 27, _, _, _, _, _⟩) rfl (fun K hK => ?_) ?_
  ·go_simp
   (go_at_call 10; refine (list_any (by omega)).mono ?_; rintro e w' ⟨rfl, hg⟩)
   (try go_wp2_with fail)
   refine hK.out _ _ ?_ ?_
   ·(try dsimp only); ((refine mk_S bx bY ?_; (repeat' (first | with_reducible exact Kept.refl _ | with_reducible assumption | (go_split_ands; with_reducible assumption) | with_reducible refine kept_step (by with_reducible assumption) ?_ | with_reducible refine kept_drew ?_ | with_reducible refine kept_alloc ?_ _ | with_reducible refine kept_drewN ?_ _))))
   clear hK K hHeld; intro hHeld
   (try simp only [Act.put, List.setIfInBounds_toArray, List.set_cons_zero, List.set_cons_succ])
   refine wpAnyH_ready (rs := [17, 23]) (by kernel_rfl) (by simp) ?_
   refine AllReadyH.cons (o := ⟨some 28, _, _, _, _, _⟩) rfl (fun K hK => ?_) ?_
   ·go_simp
    (go_at_call 24; with_reducible refine (lcm_S bx bY (by (repeat' (first | with_reducible exact Kept.refl _ | with_reducible assumption | (go_split_ands; with_reducible assumption) | with_reducible refine kept_step (by with_reducible assumption) ?_ | with_reducible refine kept_drew ?_ | with_reducible refine kept_alloc ?_ _ | with_reducible refine kept_drewN ?_ _)))).mono ?_; rintro e w' ⟨ad, len, cap, zs, rfl, ho, hcn, hv, hg⟩)
    (try go_wp2_with fail)
    refine hK.out _ _ ?_ ?_
    ·(try dsimp only); ((refine mk_S bx bY ?_; (repeat' (first | with_reducible exact Kept.refl _ | with_reducible assumption | (go_split_ands; with_reducible assumption) | with_reducible refine kept_step (by with_reducible assumption) ?_ | with_reducible refine kept_drew ?_ | with_reducible refine kept_alloc ?_ _ | with_reducible refine kept_drewN ?_ _))))
    clear hK K hHeld; intro hHeld
    (try simp only [Act.put, List.setIfInBounds_toArray, List.set_cons_zero, List.set_cons_succ])
    refine wpAnyH_ready (rs := [20, 23]) (by kernel_rfl) (by simp) ?_
    refine AllReadyH.cons (o := ⟨some 31, _, _, _, _, _⟩) rfl (fun K hK => ?_) ?_
    ·go_simp
     (go_at_call 25; with_reducible refine (reflcm_S ra rb hla hlb (by (repeat' (first | with_reducible exact Kept.refl _ | with_reducible assumption | (go_split_ands; with_reducible assumption) | with_reducible refine kept_step (by with_reducible assumption) ?_ | with_reducible refine kept_drew ?_ | with_reducible refine kept_alloc ?_ _ | with_reducible refine kept_drewN ?_ _)))).mono ?_; rintro e w' ⟨ad, len, cap, zs, rfl, ho, hcn, hv, hg⟩)
     (try go_wp2_with fail)
     refine hK.out _ _ ?_ ?_
     ·(try dsimp only); ((refine mk_S bx bY ?_; (repeat' (first | with_reducible exact Kept.refl _ | with_reducible assumption | (go_split_ands; with_reducible assumption) | with_reducible refine kept_step (by with_reducible assumption) ?_ | with_reducible refine kept_drew ?_ | with_reducible refine kept_alloc ?_ _ | with_reducible refine kept_drewN ?_ _))))
     clear hK K hHeld; intro hHeld
     (try simp only [Act.put, List.setIfInBounds_toArray, List.set_cons_zero, List.set_cons_succ])
     refine wpAnyH_ready (rs := [23]) (by kernel_rfl) (by simp) ?_
     refine AllReadyH.cons (o := ⟨some 34, _, _, _, _, _⟩) rfl (fun K hK => ?_) ?_
     ·go_simp
      refine hK.out _ _ ?_ ?_
      ·(try dsimp only); ((refine mk_S bx bY ?_; (repeat' (first | with_reducible exact Kept.refl _ | with_reducible assumption | (go_split_ands; with_reducible assumption) | with_reducible refine kept_step (by with_reducible assumption) ?_ | with_reducible refine kept_drew ?_ | with_reducible refine kept_alloc ?_ _ | with_reducible refine kept_drewN ?_ _))))
      clear hK K hHeld; intro hHeld
      (try simp only [Act.put, List.setIfInBounds_toArray, List.set_cons_zero, List.set_cons_succ])
      refine wpAnyH_ready (rs := [24]) (by kernel_rfl) (by simp) ?_
      refine AllReadyH.cons (o := ⟨some 35, _, _, _, _, _⟩) rfl (fun K hK => ?_) ?_
      ·go_simp
       (go_at_call 11; refine (is_two (w0 := w0) (by assumption) (by assumption) (by assumption) ?_ (by assumption) (by assumption) (by assumption) ?_ ?_ ?_ ?_ (by decide)).mono ?_; (all_goals (try ((repeat' (first | with_reducible exact Below.refl _ _ | with_reducible assumption | with_reducible refine grow_step (by with_reducible assumption) ?_ | with_reducible refine grow_drew ?_ | with_reducible refine grow_alloc ?_ _ | with_reducible refine grow_drewN ?_ _)); done))); (all_goals (try ((repeat' (first | with_reducible exact Kept.refl _ | with_reducible assumption | (go_split_ands; with_reducible assumption) | with_reducible refine kept_step (by with_reducible assumption) ?_ | with_reducible refine kept_drew ?_ | with_reducible refine kept_alloc ?_ _ | with_reducible refine kept_drewN ?_ _)); done))); with_reducible refine loans2 bx bY (by assumption) ?_ ?_ rfl ?_ ?_; (all_goals (try ((repeat' (first | with_reducible exact Kept.refl _ | with_reducible assumption | (go_split_ands; with_reducible assumption) | with_reducible refine kept_step (by with_reducible assumption) ?_ | with_reducible refine kept_drew ?_ | with_reducible refine kept_alloc ?_ _ | with_reducible refine kept_drewN ?_ _)); done))); (all_goals (try ((repeat' (first | with_reducible exact Below.refl _ _ | with_reducible assumption | with_reducible refine grow_step (by with_reducible assumption) ?_ | with_reducible refine grow_drew ?_ | with_reducible refine grow_alloc ?_ _ | with_reducible refine grow_drewN ?_ _)); done))); (first | (refine Or.inl ?_; focus ((repeat' (first | with_reducible exact Below.refl _ _ | with_reducible assumption | with_reducible refine grow_step (by with_reducible assumption) ?_ | with_reducible refine grow_drew ?_ | with_reducible refine grow_alloc ?_ _ | with_reducible refine grow_drewN ?_ _)); done)) | (refine Or.inr ?_; focus ((repeat' (first | with_reducible exact Below.refl _ _ | with_reducible assumption | with_reducible refine grow_step (by with_reducible assumption) ?_ | with_reducible refine grow_drew ?_ | with_reducible refine grow_alloc ?_ _ | with_reducible refine grow_drewN ?_ _)); done))); rintro e w' ⟨rfl, hk⟩)
       (try go_wp2_with fail)
       refine hK.out _ _ ?_ ?_
       ·(try dsimp only); ((refine mk_S bx bY ?_; (repeat' (first | with_reducible exact Kept.refl _ | with_reducible assumption | (go_split_ands; with_reducible assumption) | with_reducible refine kept_step (by with_reducible assumption) ?_ | with_reducible refine kept_drew ?_ | with_reducible refine kept_alloc ?_ _ | with_reducible refine kept_drewN ?_ _))))
       clear hK K hHeld; intro hHeld
       (try simp only [Act.put, List.setIfInBounds_toArray, List.set_cons_zero, List.set_cons_succ])
       refine wpAnyH_take (i := 25) (oi := ⟨some 36, _, _, _, _, _⟩) (v := ?_) rfl (by kernel_rfl) (by kernel_rfl) (by kernel_rfl) (fun _ _ _ h => hP _ _ _ _ _ h) (Or.inl ⟨by rfl, ?_⟩) (by assumption) ?_
       rotate_left
       ·intro wq hSw; (try dsimp only at hSw); go_simp; (try with_reducible rfl)
       (try simp only [Act.put, List.setIfInBounds_toArray, List.set_cons_zero, List.set_cons_succ])
       refine wpAnyH_take (i := 26) (oi := ⟨some 37, _, _, _, _, _⟩) (v := ?_) rfl (by kernel_rfl) (by kernel_rfl) (by kernel_rfl) (fun _ _ _ h => hP _ _ _ _ _ h) (Or.inl ⟨by rfl, ?_⟩) (by assumption) ?_
       rotate_left
       ·intro wq hSw; (try dsimp only at hSw); go_simp; (try with_reducible rfl)
       (try simp only [Act.put, List.setIfInBounds_toArray, List.set_cons_zero, List.set_cons_succ])
       exact anyH_listed (by kernel_rfl) (natDivisors_c3 hla hlb bx bY ra rb tb hP hend (by (repeat' (first | with_reducible exact Kept.refl _ | with_reducible assumption | (go_split_ands; with_reducible assumption) | with_reducible refine kept_step (by with_reducible assumption) ?_ | with_reducible refine kept_drew ?_ | with_reducible refine kept_alloc ?_ _ | with_reducible refine kept_drewN ?_ _))) _ _ _ _ _ _ _ _ _ _ _ _ _ _ _ _ _ _ _ _ _ _ _ _ _ _ _ _ _ _ _ _ _ _ _ _ _ _ _ _ _ _ _ _ _ _ _)
      exact AllReadyH.nil
     exact AllReadyH.nil
    refine AllReadyH.cons (o := ⟨some 34, _, _, _, _, _⟩) rfl (fun K hK => ?_) ?_
    ·go_simp
     refine hK.out _ _ ?_ ?_
     ·(try dsimp only); ((refine mk_S bx bY ?_; (repeat' (first | with_reducible exact Kept.refl _ | with_reducible assumption | (go_split_ands; with_reducible assumption) | with_reducible refine kept_step (by with_reducible assumption) ?_ | with_reducible refine kept_drew ?_ | with_reducible refine kept_alloc ?_ _ | with_reducible refine kept_drewN ?_ _))))
     clear hK K hHeld; intro hHeld
     (try simp only [Act.put, List.setIfInBounds_toArray, List.set_cons_zero, List.set_cons_succ])
     refine wpAnyH_ready (rs := [20]) (by kernel_rfl) (by simp) ?_
     refine AllReadyH.cons (o := ⟨some 31, _, _, _, _, _⟩) rfl (fun K hK => ?_) ?_
     ·go_simp
      (go_at_call 25; with_reducible refine (reflcm_S ra rb hla hlb (by (repeat' (first | with_reducible exact Kept.refl _ | with_reducible assumption | (go_split_ands; with_reducible assumption) | with_reducible refine kept_step (by with_reducible assumption) ?_ | with_reducible refine kept_drew ?_ | with_reducible refine kept_alloc ?_ _ | with_reducible refine kept_drewN ?_ _)))).mono ?_; rintro e w' ⟨ad, len, cap, zs, rfl, ho, hcn, hv, hg⟩)
      (try go_wp2_with fail)
      refine hK.out _ _ ?_ ?_
      ·(try dsimp only); ((refine mk_S bx bY ?_; (repeat' (first | with_reducible exact Kept.refl _ | with_reducible assumption | (go_split_ands; with_reducible assumption) | with_reducible refine kept_step (by with_reducible assumption) ?_ | with_reducible refine kept_drew ?_ | with_reducible refine kept_alloc ?_ _ | with_reducible refine kept_drewN ?_ _))))
      clear hK K hHeld; intro hHeld
      (try simp only [Act.put, List.setIfInBounds_toArray, List.set_cons_zero, List.set_cons_succ])
      refine wpAnyH_ready (rs := [24]) (by kernel_rfl) (by simp) ?_
      refine AllReadyH.cons (o := ⟨some 35, _, _, _, _, _⟩) rfl (fun K hK => ?_) ?_
      ·go_simp
       (go_at_call 11; refine (is_two (w0 := w0) (by assumption) (by assumption) (by assumption) ?_ (by assumption) (by assumption) (by assumption) ?_ ?_ ?_ ?_ (by decide)).mono ?_; (all_goals (try ((repeat' (first | with_reducible exact Below.refl _ _ | with_reducible assumption | with_reducible refine grow_step (by with_reducible assumption) ?_ | with_reducible refine grow_drew ?_ | with_reducible refine grow_alloc ?_ _ | with_reducible refine grow_drewN ?_ _)); done))); (all_goals (try ((repeat' (first | with_reducible exact Kept.refl _ | with_reducible assumption | (go_split_ands; with_reducible assumption) | with_reducible refine kept_step (by with_reducible assumption) ?_ | with_reducible refine kept_drew ?_ | with_reducible refine kept_alloc ?_ _ | with_reducible refine kept_drewN ?_ _)); done))); with_reducible refine loans2 bx bY (by assumption) ?_ ?_ rfl ?_ ?_; (all_goals (try ((repeat' (first | with_reducible exact Kept.refl _ | with_reducible assumption | (go_split_ands; with_reducible assumption) | with_reducible refine kept_step (by with_reducible assumption) ?_ | with_reducible refine kept_drew ?_ | with_reducible refine kept_alloc ?_ _ | with_reducible refine kept_drewN ?_ _)); done))); (all_goals (try ((repeat' (first | with_reducible exact Below.refl _ _ | with_reducible assumption | with_reducible refine grow_step (by with_reducible assumption) ?_ | with_reducible refine grow_drew ?_ | with_reducible refine grow_alloc ?_ _ | with_reducible refine grow_drewN ?_ _)); done))); (first | (refine Or.inl ?_; focus ((repeat' (first | with_reducible exact Below.refl _ _ | with_reducible assumption | with_reducible refine grow_step (by with_reducible assumption) ?_ | with_reducible refine grow_drew ?_ | with_reducible refine grow_alloc ?_ _ | with_reducible refine grow_drewN ?_ _)); done)) | (refine Or.inr ?_; focus ((repeat' (first | with_reducible exact Below.refl _ _ | with_reducible assumption | with_reducible refine grow_step (by with_reducible assumption) ?_ | with_reducible refine grow_drew ?_ | with_reducible refine grow_alloc ?_ _ | with_reducible refine grow_drewN ?_ _)); done))); rintro e w' ⟨rfl, hk⟩)
       (try go_wp2_with fail)
       refine hK.out _ _ ?_ ?_
       ·(try dsimp only); ((refine mk_S bx bY ?_; (repeat' (first | with_reducible exact Kept.refl _ | with_reducible assumption | (go_split_ands; with_reducible assumption) | with_reducible refine kept_step (by with_reducible assumption) ?_ | with_reducible refine kept_drew ?_ | with_reducible refine kept_alloc ?_ _ | with_reducible refine kept_drewN ?_ _))))
       clear hK K hHeld; intro hHeld
       (try simp only [Act.put, List.setIfInBounds_toArray, List.set_cons_zero, List.set_cons_succ])
       refine wpAnyH_take (i := 25) (oi := ⟨some 36, _, _, _, _, _⟩) (v := ?_) rfl (by kernel_rfl) (by kernel_rfl) (by kernel_rfl) (fun _ _ _ h => hP _ _ _ _ _ h) (Or.inl ⟨by rfl, ?_⟩) (by assumption) ?_
       rotate_left
       ·intro wq hSw; (try dsimp only at hSw); go_simp; (try with_reducible rfl)
       (try simp only [Act.put, List.setIfInBounds_toArray, List.set_cons_zero, List.set_cons_succ])
       refine wpAnyH_take (i := 26) (oi := ⟨some 37, _, _, _, _, _⟩) (v := ?_) rfl (by kernel_rfl) (by kernel_rfl) (by kernel_rfl) (fun _ _ _ h => hP _ _ _ _ _ h) (Or.inl ⟨by rfl, ?_⟩) (by assumption) ?_
       rotate_left
       ·intro wq hSw; (try dsimp only at hSw); go_simp; (try with_reducible rfl)
       (try simp only [Act.put, List.setIfInBounds_toArray, List.set_cons_zero, List.set_cons_succ])
       exact anyH_listed (by kernel_rfl) (natDivisors_c3 hla hlb bx bY ra rb tb hP hend (by (repeat' (first | with_reducible exact Kept.refl _ | with_reducible assumption | (go_split_ands; with_reducible assumption) | with_reducible refine kept_step (by with_reducible assumption) ?_ | with_reducible refine kept_drew ?_ | with_reducible refine kept_alloc ?_ _ | with_reducible refine kept_drewN ?_ _))) _ _ _ _ _ _ _ _ _ _ _ _ _ _ _ _ _ _ _ _ _ _ _ _ _ _ _ _ _ _ _ _ _ _ _ _ _ _ _ _ _ _ _ _ _ _ _)
      exact AllReadyH.nil
     exact AllReadyH.nil
    exact AllReadyH.nil
   refine AllReadyH.cons (o := ⟨some 34, _, _, _, _, _⟩) rfl (fun K hK => ?_) ?_
   ·go_simp
    refine hK.out _ _ ?_ ?_
    ·(try dsimp only); ((refine mk_S bx bY ?_; (repeat' (first | with_reducible exact Kept.refl _ | with_reducible assumption | (go_split_ands; with_reducible assumption) | with_reducible refine kept_step (by with_reducible assumption) ?_ | with_reducible refine kept_drew ?_ | with_reducible refine kept_alloc ?_ _ | with_reducible refine kept_drewN ?_ _))))
    clear hK K hHeld; intro hHeld
    (try simp only [Act.put, List.setIfInBounds_toArray, List.set_cons_zero, List.set_cons_succ])
    refine wpAnyH_ready (rs := [17]) (by kernel_rfl) (by simp) ?_
    refine AllReadyH.cons (o := ⟨some 28, _, _, _, _, _⟩) rfl (fun K hK => ?_) ?_
    ·go_simp
     (go_at_call 24; with_reducible refine (lcm_S bx bY (by (repeat' (first | with_reducible exact Kept.refl _ | with_reducible assumption | (go_split_ands; with_reducible assumption) | with_reducible refine kept_step (by with_reducible assumption) ?_ | with_reducible refine kept_drew ?_ | with_reducible refine kept_alloc ?_ _ | with_reducible refine kept_drewN ?_ _)))).mono ?_; rintro e w' ⟨ad, len, cap, zs, rfl, ho, hcn, hv, hg⟩)
     (try go_wp2_with fail)
     refine hK.out _ _ ?_ ?_
     ·(try dsimp only); ((refine mk_S bx bY ?_; (repeat' (first | with_reducible exact Kept.refl _ | with_reducible assumption | (go_split_ands; with_reducible assumption) | with_reducible refine kept_step (by with_reducible assumption) ?_ | with_reducible refine kept_drew ?_ | with_reducible refine kept_alloc ?_ _ | with_reducible refine kept_drewN ?_ _))))
     clear hK K hHeld; intro hHeld
     (try simp only [Act.put, List.setIfInBounds_toArray, List.set_cons_zero, List.set_cons_succ])
     refine wpAnyH_ready (rs := [20]) (by kernel_rfl) (by simp) ?_
     refine AllReadyH.cons (o := ⟨some 31, _, _, _, _, _⟩) rfl (fun K hK => ?_) ?_
     ·go_simp
      (go_at_call 25; with_reducible refine (reflcm_S ra rb hla hlb (by (repeat' (first | with_reducible exact Kept.refl _ | with_reducible assumption | (go_split_ands; with_reducible assumption) | with_reducible refine kept_step (by with_reducible assumption) ?_ | with_reducible refine kept_drew ?_ | with_reducible refine kept_alloc ?_ _ | with_reducible refine kept_drewN ?_ _)))).mono ?_; rintro e w' ⟨ad, len, cap, zs, rfl, ho, hcn, hv, hg⟩)
      (try go_wp2_with fail)
      refine hK.out _ _ ?_ ?_
      ·(try dsimp only); ((refine mk_S bx bY ?_; (repeat' (first | with_reducible exact Kept.refl _ | with_reducible assumption | (go_split_ands; with_reducible assumption) | with_reducible refine kept_step (by with_reducible assumption) ?_ | with_reducible refine kept_drew ?_ | with_reducible refine kept_alloc ?_ _ | with_reducible refine kept_drewN ?_ _))))
      clear hK K hHeld; intro hHeld
      (try simp only [Act.put, List.setIfInBounds_toArray, List.set_cons_zero, List.set_cons_succ])
      refine wpAnyH_ready (rs := [24]) (by kernel_rfl) (by simp) ?_
      refine AllReadyH.cons (o := ⟨some 35, _, _, _, _, _⟩) rfl (fun K hK => ?_) ?_
      ·go_simp
       (go_at_call 11; refine (is_two (w0 := w0) (by assumption) (by assumption) (by assumption) ?_ (by assumption) (by assumption) (by assumption) ?_ ?_ ?_ ?_ (by decide)).mono ?_; (all_goals (try ((repeat' (first | with_reducible exact Below.refl _ _ | with_reducible assumption | with_reducible refine grow_step (by with_reducible assumption) ?_ | with_reducible refine grow_drew ?_ | with_reducible refine grow_alloc ?_ _ | with_reducible refine grow_drewN ?_ _)); done))); (all_goals (try ((repeat' (first | with_reducible exact Kept.refl _ | with_reducible assumption | (go_split_ands; with_reducible assumption) | with_reducible refine kept_step (by with_reducible assumption) ?_ | with_reducible refine kept_drew ?_ | with_reducible refine kept_alloc ?_ _ | with_reducible refine kept_drewN ?_ _)); done))); with_reducible refine loans2 bx bY (by assumption) ?_ ?_ rfl ?_ ?_; (all_goals (try ((repeat' (first | with_reducible exact Kept.refl _ | with_reducible assumption | (go_split_ands; with_reducible assumption) | with_reducible refine kept_step (by with_reducible assumption) ?_ | with_reducible refine kept_drew ?_ | with_reducible refine kept_alloc ?_ _ | with_reducible refine kept_drewN ?_ _)); done))); (all_goals (try ((repeat' (first | with_reducible exact Below.refl _ _ | with_reducible assumption | with_reducible refine grow_step (by with_reducible assumption) ?_ | with_reducible refine grow_drew ?_ | with_reducible refine grow_alloc ?_ _ | with_reducible refine grow_drewN ?_ _)); done))); (first | (refine Or.inl ?_; focus ((repeat' (first | with_reducible exact Below.refl _ _ | with_reducible assumption | with_reducible refine grow_step (by with_reducible assumption) ?_ | with_reducible refine grow_drew ?_ | with_reducible refine grow_alloc ?_ _ | with_reducible refine grow_drewN ?_ _)); done)) | (refine Or.inr ?_; focus ((repeat' (first | with_reducible exact Below.refl _ _ | with_reducible assumption | with_reducible refine grow_step (by with_reducible assumption) ?_ | with_reducible refine grow_drew ?_ | with_reducible refine grow_alloc ?_ _ | with_reducible refine grow_drewN ?_ _)); done))); rintro e w' ⟨rfl, hk⟩)
       (try go_wp2_with fail)
       refine hK.out _ _ ?_ ?_
       ·(try dsimp only); ((refine mk_S bx bY ?_; (repeat' (first | with_reducible exact Kept.refl _ | with_reducible assumption | (go_split_ands; with_reducible assumption) | with_reducible refine kept_step (by with_reducible assumption) ?_ | with_reducible refine kept_drew ?_ | with_reducible refine kept_alloc ?_ _ | with_reducible refine kept_drewN ?_ _))))
       clear hK K hHeld; intro hHeld
       (try simp only [Act.put, List.setIfInBounds_toArray, List.set_cons_zero, List.set_cons_succ])
       refine wpAnyH_take (i := 25) (oi := ⟨some 36, _, _, _, _, _⟩) (v := ?_) rfl (by kernel_rfl) (by kernel_rfl) (by kernel_rfl) (fun _ _ _ h => hP _ _ _ _ _ h) (Or.inl ⟨by rfl, ?_⟩) (by assumption) ?_
       rotate_left
       ·intro wq hSw; (try dsimp only at hSw); go_simp; (try with_reducible rfl)
       (try simp only [Act.put, List.setIfInBounds_toArray, List.set_cons_zero, List.set_cons_succ])
       refine wpAnyH_take (i := 26) (oi := ⟨some 37, _, _, _, _, _⟩) (v := ?_) rfl (by kernel_rfl) (by kernel_rfl) (by kernel_rfl) (fun _ _ _ h => hP _ _ _ _ _ h) (Or.inl ⟨by rfl, ?_⟩) (by assumption) ?_
       rotate_left
       ·intro wq hSw; (try dsimp only at hSw); go_simp; (try with_reducible rfl)
       (try simp only [Act.put, List.setIfInBounds_toArray, List.set_cons_zero, List.set_cons_succ])
       exact anyH_listed (by kernel_rfl) (natDivisors_c3 hla hlb bx bY ra rb tb hP hend (by (repeat' (first | with_reducible exact Kept.refl _ | with_reducible assumption | (go_split_ands; with_reducible assumption) | with_reducible refine kept_step (by with_reducible assumption) ?_ | with_reducible refine kept_drew ?_ | with_reducible refine kept_alloc ?_ _ | with_reducible refine kept_drewN ?_ _))) _ _ _ _ _ _ _ _ _ _ _ _ _ _ _ _ _ _ _ _ _ _ _ _ _ _ _ _ _ _ _ _ _ _ _ _ _ _ _ _ _ _ _ _ _ _ _)
      exact AllReadyH.nil
     exact AllReadyH.nil
    exact AllReadyH.nil
   exact AllReadyH.nil
  refine AllReadyH.cons (o := ⟨some 34, _, _, _, _, _⟩) rfl (fun K hK => ?_) ?_
  ·go_simp
   refine hK.out _ _ ?_ ?_
   ·(try dsimp only); ((refine mk_S bx bY ?_; (repeat' (first | with_reducible exact Kept.refl _ | with_reducible assumption | (go_split_ands; with_reducible assumption) | with_reducible refine kept_step (by with_reducible assumption) ?_ | with_reducible refine kept_drew ?_ | with_reducible refine kept_alloc ?_ _ | with_reducible refine kept_drewN ?_ _))))
   clear hK K hHeld; intro hHeld
   (try simp only [Act.put, List.setIfInBounds_toArray, List.set_cons_zero, List.set_cons_succ])
   refine wpAnyH_ready (rs := [16]) (by kernel_rfl) (by simp) ?_
   refine AllReadyH.cons (o := ⟨some 27, _, _, _, _, _⟩) rfl (fun K hK => ?_) ?_
   ·go_simp
    (go_at_call 10; refine (list_any (by omega)).mono ?_; rintro e w' ⟨rfl, hg⟩)
    (try go_wp2_with fail)
    refine hK.out _ _ ?_ ?_
    ·(try dsimp only); ((refine mk_S bx bY ?_; (repeat' (first | with_reducible exact Kept.refl _ | with_reducible assumption | (go_split_ands; with_reducible assumption) | with_reducible refine kept_step (by with_reducible assumption) ?_ | with_reducible refine kept_drew ?_ | with_reducible refine kept_alloc ?_ _ | with_reducible refine kept_drewN ?_ _))))
    clear hK K hHeld; intro hHeld
    (try simp only [Act.put, List.setIfInBounds_toArray, List.set_cons_zero, List.set_cons_succ])
    refine wpAnyH_ready (rs := [17]) (by kernel_rfl) (by simp) ?_
    refine AllReadyH.cons (o := ⟨some 28, _, _, _, _, _⟩) rfl (fun K hK => ?_) ?_
    ·go_simp
     (go_at_call 24; with_reducible refine (lcm_S bx bY (by (repeat' (first | with_reducible exact Kept.refl _ | with_reducible assumption | (go_split_ands; with_reducible assumption) | with_reducible refine kept_step (by with_reducible assumption) ?_ | with_reducible refine kept_drew ?_ | with_reducible refine kept_alloc ?_ _ | with_reducible refine kept_drewN ?_ _)))).mono ?_; rintro e w' ⟨ad, len, cap, zs, rfl, ho, hcn, hv, hg⟩)
     (try go_wp2_with fail)
     refine hK.out _ _ ?_ ?_
     ·(try dsimp only); ((refine mk_S bx bY ?_; (repeat' (first | with_reducible exact Kept.refl _ | with_reducible assumption | (go_split_ands; with_reducible assumption) | with_reducible refine kept_step (by with_reducible assumption) ?_ | with_reducible refine kept_drew ?_ | with_reducible refine kept_alloc ?_ _ | with_reducible refine kept_drewN ?_ _))))
     clear hK K hHeld; intro hHeld
     (try simp only [Act.put, List.setIfInBounds_toArray, List.set_cons_zero, List.set_cons_succ])
     refine wpAnyH_ready (rs := [20]) (by kernel_rfl) (by simp) ?_
     refine AllReadyH.cons (o := ⟨some 31, _, _, _, _, _⟩) rfl (fun K hK => ?_) ?_
     ·go_simp
      (go_at_call 25; with_reducible refine (reflcm_S ra rb hla hlb (by (repeat' (first | with_reducible exact Kept.refl _ | with_reducible assumption | (go_split_ands; with_reducible assumption) | with_reducible refine kept_step (by with_reducible assumption) ?_ | with_reducible refine kept_drew ?_ | with_reducible refine kept_alloc ?_ _ | with_reducible refine kept_drewN ?_ _)))).mono ?_; rintro e w' ⟨ad, len, cap, zs, rfl, ho, hcn, hv, hg⟩)
      (try go_wp2_with fail)
      refine hK.out _ _ ?_ ?_
      ·(try dsimp only); ((refine mk_S bx bY ?_; (repeat' (first | with_reducible exact Kept.refl _ | with_reducible assumption | (go_split_ands; with_reducible assumption) | with_reducible refine kept_step (by with_reducible assumption) ?_ | with_reducible refine kept_drew ?_ | with_reducible refine kept_alloc ?_ _ | with_reducible refine kept_drewN ?_ _))))
      clear hK K hHeld; intro hHeld
      (try simp only [Act.put, List.setIfInBounds_toArray, List.set_cons_zero, List.set_cons_succ])
      refine wpAnyH_ready (rs := [24]) (by kernel_rfl) (by simp) ?_
      refine AllReadyH.cons (o := ⟨some 35, _, _, _, _, _⟩) rfl (fun K hK => ?_) ?_
      ·go_simp
       (go_at_call 11; refine (is_two (w0 := w0) (by assumption) (by assumption) (by assumption) ?_ (by assumption) (by assumption) (by assumption) ?_ ?_ ?_ ?_ (by decide)).mono ?_; (all_goals (try ((repeat' (first | with_reducible exact Below.refl _ _ | with_reducible assumption | with_reducible refine grow_step (by with_reducible assumption) ?_ | with_reducible refine grow_drew ?_ | with_reducible refine grow_alloc ?_ _ | with_reducible refine grow_drewN ?_ _)); done))); (all_goals (try ((repeat' (first | with_reducible exact Kept.refl _ | with_reducible assumption | (go_split_ands; with_reducible assumption) | with_reducible refine kept_step (by with_reducible assumption) ?_ | with_reducible refine kept_drew ?_ | with_reducible refine kept_alloc ?_ _ | with_reducible refine kept_drewN ?_ _)); done))); with_reducible refine loans2 bx bY (by assumption) ?_ ?_ rfl ?_ ?_; (all_goals (try ((repeat' (first | with_reducible exact Kept.refl _ | with_reducible assumption | (go_split_ands; with_reducible assumption) | with_reducible refine kept_step (by with_reducible assumption) ?_ | with_reducible refine kept_drew ?_ | with_reducible refine kept_alloc ?_ _ | with_reducible refine kept_drewN ?_ _)); done))); (all_goals (try ((repeat' (first | with_reducible exact Below.refl _ _ | with_reducible assumption | with_reducible refine grow_step (by with_reducible assumption) ?_ | with_reducible refine grow_drew ?_ | with_reducible refine grow_alloc ?_ _ | with_reducible refine grow_drewN ?_ _)); done))); (first | (refine Or.inl ?_; focus ((repeat' (first | with_reducible exact Below.refl _ _ | with_reducible assumption | with_reducible refine grow_step (by with_reducible assumption) ?_ | with_reducible refine grow_drew ?_ | with_reducible refine grow_alloc ?_ _ | with_reducible refine grow_drewN ?_ _)); done)) | (refine Or.inr ?_; focus ((repeat' (first | with_reducible exact Below.refl _ _ | with_reducible assumption | with_reducible refine grow_step (by with_reducible assumption) ?_ | with_reducible refine grow_drew ?_ | with_reducible refine grow_alloc ?_ _ | with_reducible refine grow_drewN ?_ _)); done))); rintro e w' ⟨rfl, hk⟩)
       (try go_wp2_with fail)
       refine hK.out _ _ ?_ ?_
       ·(try dsimp only); ((refine mk_S bx bY ?_; (repeat' (first | with_reducible exact Kept.refl _ | with_reducible assumption | (go_split_ands; with_reducible assumption) | with_reducible refine kept_step (by with_reducible assumption) ?_ | with_reducible refine kept_drew ?_ | with_reducible refine kept_alloc ?_ _ | with_reducible refine kept_drewN ?_ _))))
       clear hK K hHeld; intro hHeld
       (try simp only [Act.put, List.setIfInBounds_toArray, List.set_cons_zero, List.set_cons_succ])
       refine wpAnyH_take (i := 25) (oi := ⟨some 36, _, _, _, _, _⟩) (v := ?_) rfl (by kernel_rfl) (by kernel_rfl) (by kernel_rfl) (fun _ _ _ h => hP _ _ _ _ _ h) (Or.inl ⟨by rfl, ?_⟩) (by assumption) ?_
       rotate_left
       ·intro wq hSw; (try dsimp only at hSw); go_simp; (try with_reducible rfl)
       (try simp only [Act.put, List.setIfInBounds_toArray, List.set_cons_zero, List.set_cons_succ])
       refine wpAnyH_take (i := 26) (oi := ⟨some 37, _, _, _, _, _⟩) (v := ?_) rfl (by kernel_rfl) (by kernel_rfl) (by kernel_rfl) (fun _ _ _ h => hP _ _ _ _ _ h) (Or.inl ⟨by rfl, ?_⟩) (by assumption) ?_
       rotate_left
       ·intro wq hSw; (try dsimp only at hSw); go_simp; (try with_reducible rfl)
       (try simp only [Act.put, List.setIfInBounds_toArray, List.set_cons_zero, List.set_cons_succ])
       exact anyH_listed (by kernel_rfl) (natDivisors_c3 hla hlb bx bY ra rb tb hP hend (by (repeat' (first | with_reducible exact Kept.refl _ | with_reducible assumption | (go_split_ands; with_reducible assumption) | with_reducible refine kept_step (by with_reducible assumption) ?_ | with_reducible refine kept_drew ?_ | with_reducible refine kept_alloc ?_ _ | with_reducible refine kept_drewN ?_ _))) _ _ _ _ _ _ _ _ _ _ _ _ _ _ _ _ _ _ _ _ _ _ _ _ _ _ _ _ _ _ _ _ _ _ _ _ _ _ _ _ _ _ _ _ _ _ _)
      exact AllReadyH.nil
     exact AllReadyH.nil
    exact AllReadyH.nil
   exact AllReadyH.nil
  exact AllReadyH.nil
 refine AllReadyH.cons (o := ⟨some 34, _, _, _, _, _⟩) rfl (fun K hK => ?_) ?_
 ·go_simp
  refine hK.out _ _ ?_ ?_
  ·(try dsimp only); ((refine mk_S bx bY ?_; (repeat' (first | with_reducible exact Kept.refl _ | with_reducible assumption | (go_split_ands; with_reducible assumption) | with_reducible refine kept_step (by with_reducible assumption) ?_ | with_reducible refine kept_drew ?_ | with_reducible refine kept_alloc ?_ _ | with_reducible refine kept_drewN ?_ _))))
  clear hK K hHeld; intro hHeld
  (try simp only [Act.put, List.setIfInBounds_toArray, List.set_cons_zero, List.set_cons_succ])
  refine wpAnyH_ready (rs := [14]) (by kernel_rfl) (by simp) ?_
  refine AllReadyH.cons (o := ⟨some 25, _, _, _, _, _⟩) rfl (fun K hK => ?_) ?_
  ·go_simp
   (go_at_call 10; refine (list_any (by omega)).mono ?_; rintro e w' ⟨rfl, hg⟩)
   (try go_wp2_with fail)
   refine hK.out _ _ ?_ ?_
   ·(try dsimp only); ((refine mk_S bx bY ?_; (repeat' (first | with_reducible exact Kept.refl _ | with_reducible assumption | (go_split_ands; with_reducible assumption) | with_reducible refine kept_step (by with_reducible assumption) ?_ | with_reducible refine kept_drew ?_ | with_reducible refine kept_alloc ?_ _ | with_reducible refine kept_drewN ?_ _))))
   clear hK K hHeld; intro hHeld
   (try simp only [Act.put, List.setIfInBounds_toArray, List.set_cons_zero, List.set_cons_succ])
   refine wpAnyH_ready (rs := [16]) (by kernel_rfl) (by simp) ?_
   refine AllReadyH.cons (o := ⟨some 27, _, _, _, _, _⟩) rfl (fun K hK => ?_) ?_
   ·go_simp
    (go_at_call 10; refine (list_any (by omega)).mono ?_; rintro e w' ⟨rfl, hg⟩)
    (try go_wp2_with fail)
    refine hK.out _ _ ?_ ?_
    ·(try dsimp only); ((refine mk_S bx bY ?_; (repeat' (first | with_reducible exact Kept.refl _ | with_reducible assumption | (go_split_ands; with_reducible assumption) | with_reducible refine kept_step (by with_reducible assumption) ?_ | with_reducible refine kept_drew ?_ | with_reducible refine kept_alloc ?_ _ | with_reducible refine kept_drewN ?_ _))))
    clear hK K hHeld; intro hHeld
    (try simp only [Act.put, List.setIfInBounds_toArray, List.set_cons_zero, List.set_cons_succ])
    refine wpAnyH_ready (rs := [17]) (by kernel_rfl) (by simp) ?_
    refine AllReadyH.cons (o := ⟨some 28, _, _, _, _, _⟩) rfl (fun K hK => ?_) ?_
    ·go_simp
     (go_at_call 24; with_reducible refine (lcm_S bx bY (by (repeat' (first | with_reducible exact Kept.refl _ | with_reducible assumption | (go_split_ands; with_reducible assumption) | with_reducible refine kept_step (by with_reducible assumption) ?_ | with_reducible refine kept_drew ?_ | with_reducible refine kept_alloc ?_ _ | with_reducible refine kept_drewN ?_ _)))).mono ?_; rintro e w' ⟨ad, len, cap, zs, rfl, ho, hcn, hv, hg⟩)
     (try go_wp2_with fail)
     refine hK.out _ _ ?_ ?_
     ·(try dsimp only); ((refine mk_S bx bY ?_; (repeat' (first | with_reducible exact Kept.refl _ | with_reducible assumption | (go_split_ands; with_reducible assumption) | with_reducible refine kept_step (by with_reducible assumption) ?_ | with_reducible refine kept_drew ?_ | with_reducible refine kept_alloc ?_ _ | with_reducible refine kept_drewN ?_ _))))
     clear hK K hHeld; intro hHeld
     (try simp only [Act.put, List.setIfInBounds_toArray, List.set_cons_zero, List.set_cons_succ])
     refine wpAnyH_ready (rs := [20]) (by kernel_rfl) (by simp) ?_
     refine AllReadyH.cons (o := ⟨some 31, _, _, _, _, _⟩) rfl (fun K hK => ?_) ?_
     ·go_simp
      (go_at_call 25; with_reducible refine (reflcm_S ra rb hla hlb (by (repeat' (first | with_reducible exact Kept.refl _ | with_reducible assumption | (go_split_ands; with_reducible assumption) | with_reducible refine kept_step (by with_reducible assumption) ?_ | with_reducible refine kept_drew ?_ | with_reducible refine kept_alloc ?_ _ | with_reducible refine kept_drewN ?_ _)))).mono ?_; rintro e w' ⟨ad, len, cap, zs, rfl, ho, hcn, hv, hg⟩)
      (try go_wp2_with fail)
      refine hK.out _ _ ?_ ?_
      ·(try dsimp only); ((refine mk_S bx bY ?_; (repeat' (first | with_reducible exact Kept.refl _ | with_reducible assumption | (go_split_ands; with_reducible assumption) | with_reducible refine kept_step (by with_reducible assumption) ?_ | with_reducible refine kept_drew ?_ | with_reducible refine kept_alloc ?_ _ | with_reducible refine kept_drewN ?_ _))))
      clear hK K hHeld; intro hHeld
      (try simp only [Act.put, List.setIfInBounds_toArray, List.set_cons_zero, List.set_cons_succ])
      refine wpAnyH_ready (rs := [24]) (by kernel_rfl) (by simp) ?_
      refine AllReadyH.cons (o := ⟨some 35, _, _, _, _, _⟩) rfl (fun K hK => ?_) ?_
      ·go_simp
       (go_at_call 11; refine (is_two (w0 := w0) (by assumption) (by assumption) (by assumption) ?_ (by assumption) (by assumption) (by assumption) ?_ ?_ ?_ ?_ (by decide)).mono ?_; (all_goals (try ((repeat' (first | with_reducible exact Below.refl _ _ | with_reducible assumption | with_reducible refine grow_step (by with_reducible assumption) ?_ | with_reducible refine grow_drew ?_ | with_reducible refine grow_alloc ?_ _ | with_reducible refine grow_drewN ?_ _)); done))); (all_goals (try ((repeat' (first | with_reducible exact Kept.refl _ | with_reducible assumption | (go_split_ands; with_reducible assumption) | with_reducible refine kept_step (by with_reducible assumption) ?_ | with_reducible refine kept_drew ?_ | with_reducible refine kept_alloc ?_ _ | with_reducible refine kept_drewN ?_ _)); done))); with_reducible refine loans2 bx bY (by assumption) ?_ ?_ rfl ?_ ?_; (all_goals (try ((repeat' (first | with_reducible exact Kept.refl _ | with_reducible assumption | (go_split_ands; with_reducible assumption) | with_reducible refine kept_step (by with_reducible assumption) ?_ | with_reducible refine kept_drew ?_ | with_reducible refine kept_alloc ?_ _ | with_reducible refine kept_drewN ?_ _)); done))); (all_goals (try ((repeat' (first | with_reducible exact Below.refl _ _ | with_reducible assumption | with_reducible refine grow_step (by with_reducible assumption) ?_ | with_reducible refine grow_drew ?_ | with_reducible refine grow_alloc ?_ _ | with_reducible refine grow_drewN ?_ _)); done))); (first | (refine Or.inl ?_; focus ((repeat' (first | with_reducible exact Below.refl _ _ | with_reducible assumption | with_reducible refine grow_step (by with_reducible assumption) ?_ | with_reducible refine grow_drew ?_ | with_reducible refine grow_alloc ?_ _ | with_reducible refine grow_drewN ?_ _)); done)) | (refine Or.inr ?_; focus ((repeat' (first | with_reducible exact Below.refl _ _ | with_reducible assumption | with_reducible refine grow_step (by with_reducible assumption) ?_ | with_reducible refine grow_drew ?_ | with_reducible refine grow_alloc ?_ _ | with_reducible refine grow_drewN ?_ _)); done))); rintro e w' ⟨rfl, hk⟩)
       (try go_wp2_with fail)
       refine hK.out _ _ ?_ ?_
       ·(try dsimp only); ((refine mk_S bx bY ?_; (repeat' (first | with_reducible exact Kept.refl _ | with_reducible assumption | (go_split_ands; with_reducible assumption) | with_reducible refine kept_step (by with_reducible assumption) ?_ | with_reducible refine kept_drew ?_ | with_reducible refine kept_alloc ?_ _ | with_reducible refine kept_drewN ?_ _))))
       clear hK K hHeld; intro hHeld
       (try simp only [Act.put, List.setIfInBounds_toArray, List.set_cons_zero, List.set_cons_succ])
       refine wpAnyH_take (i := 25) (oi := ⟨some 36, _, _, _, _, _⟩) (v := ?_) rfl (by kernel_rfl) (by kernel_rfl) (by kernel_rfl) (fun _ _ _ h => hP _ _ _ _ _ h) (Or.inl ⟨by rfl, ?_⟩) (by assumption) ?_
       rotate_left
       ·intro wq hSw; (try dsimp only at hSw); go_simp; (try with_reducible rfl)
       (try simp only [Act.put, List.setIfInBounds_toArray, List.set_cons_zero, List.set_cons_succ])
       refine wpAnyH_take (i := 26) (oi := ⟨some 37, _, _, _, _, _⟩) (v := ?_) rfl (by kernel_rfl) (by kernel_rfl) (by kernel_rfl) (fun _ _ _ h => hP _ _ _ _ _ h) (Or.inl ⟨by rfl, ?_⟩) (by assumption) ?_
       rotate_left
       ·intro wq hSw; (try dsimp only at hSw); go_simp; (try with_reducible rfl)
       (try simp only [Act.put, List.setIfInBounds_toArray, List.set_cons_zero, List.set_cons_succ])
       exact anyH_listed (by kernel_rfl) (natDivisors_c3 hla hlb bx bY ra rb tb hP hend (by (repeat' (first | with_reducible exact Kept.refl _ | with_reducible assumption | (go_split_ands; with_reducible assumption) | with_reducible refine kept_step (by with_reducible assumption) ?_ | with_reducible refine kept_drew ?_ | with_reducible refine kept_alloc ?_ _ | with_reducible refine kept_drewN ?_ _))) _ _ _ _ _ _ _ _ _ _ _ _ _ _ _ _ _ _ _ _ _ _ _ _ _ _ _ _ _ _ _ _ _ _ _ _ _ _ _ _ _ _ _ _ _ _ _)
      exact AllReadyH.nil
     exact AllReadyH.nil
    exact AllReadyH.nil
   exact AllReadyH.nil
  exact AllReadyH.nil
 exact AllReadyH.nil
set_option maxRecDepth 100000 in
set_option maxHeartbeats 3200000 in
theorem natDivisors_c1 {aa ab : Option Addr} {la ca lb cb : Nat} {xs ys : List Int} {w0 wc : World} {p q f1 g1 f2 g2 : Nat} {F1 F2 : List Int} {Q : Exit → Act → World → Prop} (hla : la ≤ 1048576) (hlb : lb ≤ 1048576) (bx : Box w0 p f1 g1 la xs F1) (bY : Box w0 q f2 g2 lb ys F2) (ra : Rd w0 aa la ca xs) (rb : Rd w0 ab lb cb ys) (tb : Tab w0) (hP : ∀ c a d v w, Q (.panic c) (Act.put a d v) w → Q (.panic c) a w) (hend : ∀ (u2 u3 u7 u8 u9 u10 u11 u12 u13 u14 u15 u16 u17 u18 u19 u20 u21 u22 u23 u24 u25 u26 u27 u28 u29 u30 u31 u32 u33 u34 u35 u36 u37 u38 u39 u40 u41 u42 u43 u44 u45 u46 u47 u48 u49 u50 u51 : Value) (w' : World), Kept w0 w' → Q .normal ⟨#[.slice aa la ca, .slice ab lb cb, u2, u3, .bool true, .pointer (some ⟨p, 0, none⟩), .pointer (some ⟨q, 0, none⟩), u7, u8, u9, u10, u11, u12, u13, u14, u15, u16, u17, u18, u19, u20, u21, u22, u23, u24, u25, u26, u27, u28, u29, u30, u31, u32, u33, u34, u35, u36, u37, u38, u39, u40, u41, u42, u43, u44, u45, u46, u47, u48, u49, u50, u51], []⟩ w') (hcut : Kept w0 wc) (u2 u3 u4 u7 u8 u9 u10 u11 u12 u13 u14 u15 u16 u17 u18 u19 u20 u21 u22 u23 u24 u25 u26 u27 u28 u29 u30 u31 u32 u33 u34 u35 u36 u37 u38 u39 u40 u41 u42 u43 u44 u45 u46 u47 u48 u49 u50 u51 : Value) :
  regAny Tryd.prog (natDivisorsTailAt Tryd.f5) Q (fun w' => w'.cell? ⟨p, 0, none⟩ = some (.slice (some ⟨f1, 0, none⟩) (la + 4) (la + 4)) ∧ w'.cell? ⟨p, 1, none⟩ = some (.int .i64 la) ∧ w'.cell? ⟨p, 2, none⟩ = some (.slice (some ⟨g1, 0, none⟩) (la + 4) (la + 4)) ∧ w'.cell? ⟨q, 0, none⟩ = some (.slice (some ⟨f2, 0, none⟩) (lb + 4) (lb + 4)) ∧ w'.cell? ⟨q, 1, none⟩ = some (.int .i64 lb) ∧ w'.cell? ⟨q, 2, none⟩ = some (.slice (some ⟨g2, 0, none⟩) (lb + 4) (lb + 4)) ∧ Kept w0 w') 42 (upTo 0 42) ⟨#[.slice aa la ca, .slice ab lb cb, u2, u3, u4, .pointer (some ⟨p, 0, none⟩), .pointer (some ⟨q, 0, none⟩), u7, u8, u9, u10, u11, u12, u13, u14, u15, u16, u17, u18, u19, u20, u21, u22, u23, u24, u25, u26, u27, u28, u29, u30, u31, u32, u33, u34, u35, u36, u37, u38, u39, u40, u41, u42, u43, u44, u45, u46, u47, u48, u49, u50, u51], []⟩ wc := by
 have hn1 : (0 : Int) ≤ (la : Int) := by omega
 have hn2 : (0 : Int) ≤ (lb : Int) := by omega
 have hHeld : (fun w' => w'.cell? ⟨p, 0, none⟩ = some (.slice (some ⟨f1, 0, none⟩) (la + 4) (la + 4)) ∧ w'.cell? ⟨p, 1, none⟩ = some (.int .i64 la) ∧ w'.cell? ⟨p, 2, none⟩ = some (.slice (some ⟨g1, 0, none⟩) (la + 4) (la + 4)) ∧ w'.cell? ⟨q, 0, none⟩ = some (.slice (some ⟨f2, 0, none⟩) (lb + 4) (lb + 4)) ∧ w'.cell? ⟨q, 1, none⟩ = some (.int .i64 lb) ∧ w'.cell? ⟨q, 2, none⟩ = some (.slice (some ⟨g2, 0, none⟩) (lb + 4) (lb + 4)) ∧ Kept w0 w') wc := by ((refine mk_S bx bY ?_; (repeat' (first | with_reducible exact Kept.refl _ | with_reducible assumption | (go_split_ands; with_reducible assumption) | with_reducible refine kept_step (by with_reducible assumption) ?_ | with_reducible refine kept_drew ?_ | with_reducible refine kept_alloc ?_ _ | with_reducible refine kept_drewN ?_ _))))
 conv => arg 2; whnf
 dsimp only [regAny]
 refine wpAnyH_take (i := 0) (oi := ⟨some 11, _, _, _, _, _⟩) (v := ?_) rfl (by kernel_rfl) (by kernel_rfl) (by kernel_rfl) (fun _ _ _ h => hP _ _ _ _ _ h) (Or.inl ⟨by rfl, ?_⟩) (by assumption) ?_
 rotate_left
 ·intro wq hSw; (try dsimp only at hSw); go_simp; (try with_reducible rfl)
 (try simp only [Act.put, List.setIfInBounds_toArray, List.set_cons_zero, List.set_cons_succ])
 refine wpAnyH_take (i := 2) (oi := ⟨some 13, _, _, _, _, _⟩) (v := ?_) rfl (by kernel_rfl) (by kernel_rfl) (by kernel_rfl) (fun _ _ _ h => hP _ _ _ _ _ h) (Or.inl ⟨by rfl, ?_⟩) (by assumption) ?_
 rotate_left
 ·intro wq hSw; (try dsimp only at hSw); go_simp; (try with_reducible rfl)
 (try simp only [Act.put, List.setIfInBounds_toArray, List.set_cons_zero, List.set_cons_succ])
 refine wpAnyH_take (i := 5) (oi := ⟨some 16, _, _, _, _, _⟩) (v := ?_) rfl (by kernel_rfl) (by kernel_rfl) (by kernel_rfl) (fun _ _ _ h => hP _ _ _ _ _ h) (Or.inl ⟨by rfl, ?_⟩) (by assumption) ?_
 rotate_left
 ·intro wq hSw; (try dsimp only at hSw); go_simp; (try with_reducible rfl)
 (try simp only [Act.put, List.setIfInBounds_toArray, List.set_cons_zero, List.set_cons_succ])
 refine wpAnyH_take (i := 6) (oi := ⟨some 17, _, _, _, _, _⟩) (v := ?_) rfl (by kernel_rfl) (by kernel_rfl) (by kernel_rfl) (fun _ _ _ h => hP _ _ _ _ _ h) (Or.inl ⟨by rfl, ?_⟩) (by assumption) ?_
 rotate_left
 ·intro wq hSw; (try dsimp only at hSw); go_simp; (try with_reducible rfl)
 (try simp only [Act.put, List.setIfInBounds_toArray, List.set_cons_zero, List.set_cons_succ])
 refine wpAnyH_take (i := 8) (oi := ⟨some 19, _, _, _, _, _⟩) (v := ?_) rfl (by kernel_rfl) (by kernel_rfl) (by kernel_rfl) (fun _ _ _ h => hP _ _ _ _ _ h) (Or.inl ⟨by rfl, ?_⟩) (by assumption) ?_
 rotate_left
 ·intro wq hSw; (try dsimp only at hSw); go_simp; (try with_reducible rfl)
 (try simp only [Act.put, List.setIfInBounds_toArray, List.set_cons_zero, List.set_cons_succ])
 refine wpAnyH_take (i := 9) (oi := ⟨some 20, _, _, _, _, _⟩) (v := ?_) rfl (by kernel_rfl) (by kernel_rfl) (by kernel_rfl) (fun _ _ _ h => hP _ _ _ _ _ h) (Or.inl ⟨by rfl, ?_⟩) (by assumption) ?_
 rotate_left
 ·intro wq hSw; (try dsimp only at hSw); go_simp; (try with_reducible rfl)
 (try simp only [Act.put, List.setIfInBounds_toArray, List.set_cons_zero, List.set_cons_succ])
 refine wpAnyH_ready (rs := [1, 10]) (by kernel_rfl) (by simp) ?_
 refine AllReadyH.cons (o := ⟨some 12, _, _, _, _, _⟩) rfl (fun K hK => ?_) ?_
 ·go_simp
  (go_at_call 10; refine (list_any (by omega)).mono ?_; rintro e w' ⟨rfl, hg⟩)
  (try go_wp2_with fail)
  refine hK.out _ _ ?_ ?_
  ·(try dsimp only); ((refine mk_S bx bY ?_; (repeat' (first | with_reducible exact Kept.refl _ | with_reducible assumption | (go_split_ands; with_reducible assumption) | with_reducible refine kept_step (by with_reducible assumption) ?_ | with_reducible refine kept_drew ?_ | with_reducible refine kept_alloc ?_ _ | with_reducible refine kept_drewN ?_ _))))
  clear hK K hHeld; intro hHeld
  (try simp only [Act.put, List.setIfInBounds_toArray, List.set_cons_zero, List.set_cons_succ])
  refine wpAnyH_ready (rs := [3, 10]) (by kernel_rfl) (by simp) ?_
  refine AllReadyH.cons (o := ⟨some 14, _, _, _, _, _⟩) rfl (fun K hK => ?_) ?_
  ·go_simp
   (go_at_call 10; refine (list_any (by omega)).mono ?_; rintro e w' ⟨rfl, hg⟩)
   (try go_wp2_with fail)
   refine hK.out _ _ ?_ ?_
   ·(try dsimp only); ((refine mk_S bx bY ?_; (repeat' (first | with_reducible exact Kept.refl _ | with_reducible assumption | (go_split_ands; with_reducible assumption) | with_reducible refine kept_step (by with_reducible assumption) ?_ | with_reducible refine kept_drew ?_ | with_reducible refine kept_alloc ?_ _ | with_reducible refine kept_drewN ?_ _))))
   clear hK K hHeld; intro hHeld
   (try simp only [Act.put, List.setIfInBounds_toArray, List.set_cons_zero, List.set_cons_succ])
   refine wpAnyH_ready (rs := [4, 10]) (by kernel_rfl) (by simp) ?_
   refine AllReadyH.cons (o := ⟨some 15, _, _, _, _, _⟩) rfl (fun K hK => ?_) ?_
   ·go_simp
    (go_at_call 22; first | (with_reducible refine (gcd_S bx bY (by (repeat' (first | with_reducible exact Kept.refl _ | with_reducible assumption | (go_split_ands; with_reducible assumption) | with_reducible refine kept_step (by with_reducible assumption) ?_ | with_reducible refine kept_drew ?_ | with_reducible refine kept_alloc ?_ _ | with_reducible refine kept_drewN ?_ _)))).mono ?_; rintro e w' ⟨ad, len, cap, zs, rfl, ho, hcn, hv, hg⟩) | (with_reducible refine (gcd_SX bx (by (repeat' (first | with_reducible exact Kept.refl _ | with_reducible assumption | (go_split_ands; with_reducible assumption) | with_reducible refine kept_step (by with_reducible assumption) ?_ | with_reducible refine kept_drew ?_ | with_reducible refine kept_alloc ?_ _ | with_reducible refine kept_drewN ?_ _)))).mono ?_; rintro e w' ⟨ad, len, cap, zs, rfl, ho, hcn, hv, hg⟩))
    (try go_wp2_with fail)
    refine hK.out _ _ ?_ ?_
    ·(try dsimp only); ((refine mk_S bx bY ?_; (repeat' (first | with_reducible exact Kept.refl _ | with_reducible assumption | (go_split_ands; with_reducible assumption) | with_reducible refine kept_step (by with_reducible assumption) ?_ | with_reducible refine kept_drew ?_ | with_reducible refine kept_alloc ?_ _ | with_reducible refine kept_drewN ?_ _))))
    clear hK K hHeld; intro hHeld
    (try simp only [Act.put, List.setIfInBounds_toArray, List.set_cons_zero, List.set_cons_succ])
    refine wpAnyH_ready (rs := [7, 10]) (by kernel_rfl) (by simp) ?_
    refine AllReadyH.cons (o := ⟨some 18, _, _, _, _, _⟩) rfl (fun K hK => ?_) ?_
    ·go_simp
     (go_at_call 23; with_reducible refine (refgcd_S ra rb hla hlb (by (repeat' (first | with_reducible exact Kept.refl _ | with_reducible assumption | (go_split_ands; with_reducible assumption) | with_reducible refine kept_step (by with_reducible assumption) ?_ | with_reducible refine kept_drew ?_ | with_reducible refine kept_alloc ?_ _ | with_reducible refine kept_drewN ?_ _)))).mono ?_; rintro e w' ⟨ad, len, cap, zs, rfl, ho, hcn, hv, hg⟩)
     (try go_wp2_with fail)
     refine hK.out _ _ ?_ ?_
     ·(try dsimp only); ((refine mk_S bx bY ?_; (repeat' (first | with_reducible exact Kept.refl _ | with_reducible assumption | (go_split_ands; with_reducible assumption) | with_reducible refine kept_step (by with_reducible assumption) ?_ | with_reducible refine kept_drew ?_ | with_reducible refine kept_alloc ?_ _ | with_reducible refine kept_drewN ?_ _))))
     clear hK K hHeld; intro hHeld
     (try simp only [Act.put, List.setIfInBounds_toArray, List.set_cons_zero, List.set_cons_succ])
     refine wpAnyH_ready (rs := [10]) (by kernel_rfl) (by simp) ?_
     refine AllReadyH.cons (o := ⟨some 21, _, _, _, _, _⟩) rfl (fun K hK => ?_) ?_
     ·go_simp
      refine hK.out _ _ ?_ ?_
      ·(try dsimp only); ((refine mk_S bx bY ?_; (repeat' (first | with_reducible exact Kept.refl _ | with_reducible assumption | (go_split_ands; with_reducible assumption) | with_reducible refine kept_step (by with_reducible assumption) ?_ | with_reducible refine kept_drew ?_ | with_reducible refine kept_alloc ?_ _ | with_reducible refine kept_drewN ?_ _))))
      clear hK K hHeld; intro hHeld
      (try simp only [Act.put, List.setIfInBounds_toArray, List.set_cons_zero, List.set_cons_succ])
      refine wpAnyH_ready (rs := [11]) (by kernel_rfl) (by simp) ?_
      refine AllReadyH.cons (o := ⟨some 22, _, _, _, _, _⟩) rfl (fun K hK => ?_) ?_
      ·go_simp
       (go_at_call 11; refine (is_two (w0 := w0) (by assumption) (by assumption) (by assumption) ?_ (by assumption) (by assumption) (by assumption) ?_ ?_ ?_ ?_ (by decide)).mono ?_; (all_goals (try ((repeat' (first | with_reducible exact Below.refl _ _ | with_reducible assumption | with_reducible refine grow_step (by with_reducible assumption) ?_ | with_reducible refine grow_drew ?_ | with_reducible refine grow_alloc ?_ _ | with_reducible refine grow_drewN ?_ _)); done))); (all_goals (try ((repeat' (first | with_reducible exact Kept.refl _ | with_reducible assumption | (go_split_ands; with_reducible assumption) | with_reducible refine kept_step (by with_reducible assumption) ?_ | with_reducible refine kept_drew ?_ | with_reducible refine kept_alloc ?_ _ | with_reducible refine kept_drewN ?_ _)); done))); with_reducible refine loans2 bx bY (by assumption) ?_ ?_ rfl ?_ ?_; (all_goals (try ((repeat' (first | with_reducible exact Kept.refl _ | with_reducible assumption | (go_split_ands; with_reducible assumption) | with_reducible refine kept_step (by with_reducible assumption) ?_ | with_reducible refine kept_drew ?_ | with_reducible refine kept_alloc ?_ _ | with_reducible refine kept_drewN ?_ _)); done))); (all_goals (try ((repeat' (first | with_reducible exact Below.refl _ _ | with_reducible assumption | with_reducible refine grow_step (by with_reducible assumption) ?_ | with_reducible refine grow_drew ?_ | with_reducible refine grow_alloc ?_ _ | with_reducible refine grow_drewN ?_ _)); done))); (first | (refine Or.inl ?_; focus ((repeat' (first | with_reducible exact Below.refl _ _ | with_reducible assumption | with_reducible refine grow_step (by with_reducible assumption) ?_ | with_reducible refine grow_drew ?_ | with_reducible refine grow_alloc ?_ _ | with_reducible refine grow_drewN ?_ _)); done)) | (refine Or.inr ?_; focus ((repeat' (first | with_reducible exact Below.refl _ _ | with_reducible assumption | with_reducible refine grow_step (by with_reducible assumption) ?_ | with_reducible refine grow_drew ?_ | with_reducible refine grow_alloc ?_ _ | with_reducible refine grow_drewN ?_ _)); done))); rintro e w' ⟨rfl, hk⟩)
       (try go_wp2_with fail)
       refine hK.out _ _ ?_ ?_
       ·(try dsimp only); ((refine mk_S bx bY ?_; (repeat' (first | with_reducible exact Kept.refl _ | with_reducible assumption | (go_split_ands; with_reducible assumption) | with_reducible refine kept_step (by with_reducible assumption) ?_ | with_reducible refine kept_drew ?_ | with_reducible refine kept_alloc ?_ _ | with_reducible refine kept_drewN ?_ _))))
       clear hK K hHeld; intro hHeld
       (try simp only [Act.put, List.setIfInBounds_toArray, List.set_cons_zero, List.set_cons_succ])
       refine wpAnyH_take (i := 12) (oi := ⟨some 23, _, _, _, _, _⟩) (v := ?_) rfl (by kernel_rfl) (by kernel_rfl) (by kernel_rfl) (fun _ _ _ h => hP _ _ _ _ _ h) (Or.inl ⟨by rfl, ?_⟩) (by assumption) ?_
       rotate_left
       ·intro wq hSw; (try dsimp only at hSw); go_simp; (try with_reducible rfl)
       (try simp only [Act.put, List.setIfInBounds_toArray, List.set_cons_zero, List.set_cons_succ])
       exact anyH_listed (by kernel_rfl) (natDivisors_c2 hla hlb bx bY ra rb tb hP hend (by (repeat' (first | with_reducible exact Kept.refl _ | with_reducible assumption | (go_split_ands; with_reducible assumption) | with_reducible refine kept_step (by with_reducible assumption) ?_ | with_reducible refine kept_drew ?_ | with_reducible refine kept_alloc ?_ _ | with_reducible refine kept_drewN ?_ _))) _ _ _ _ _ _ _ _ _ _ _ _ _ _ _ _ _ _ _ _ _ _ _ _ _ _ _ _ _ _ _ _ _ _ _ _ _ _ _ _ _ _ _ _ _ _ _)
      exact AllReadyH.nil
     exact AllReadyH.nil
    refine AllReadyH.cons (o := ⟨some 21, _, _, _, _, _⟩) rfl (fun K hK => ?_) ?_
    ·go_simp
     refine hK.out _ _ ?_ ?_
     ·(try dsimp only); ((refine mk_S bx bY ?_; (repeat' (first | with_reducible exact Kept.refl _ | with_reducible assumption | (go_split_ands; with_reducible assumption) | with_reducible refine kept_step (by with_reducible assumption) ?_ | with_reducible refine kept_drew ?_ | with_reducible refine kept_alloc ?_ _ | with_reducible refine kept_drewN ?_ _))))
     clear hK K hHeld; intro hHeld
     (try simp only [Act.put, List.setIfInBounds_toArray, List.set_cons_zero, List.set_cons_succ])
     refine wpAnyH_ready (rs := [7]) (by kernel_rfl) (by simp) ?_
     refine AllReadyH.cons (o := ⟨some 18, _, _, _, _, _⟩) rfl (fun K hK => ?_) ?_
     ·go_simp
      (go_at_call 23; with_reducible refine (refgcd_S ra rb hla hlb (by (repeat' (first | with_reducible exact Kept.refl _ | with_reducible assumption | (go_split_ands; with_reducible assumption) | with_reducible refine kept_step (by with_reducible assumption) ?_ | with_reducible refine kept_drew ?_ | with_reducible refine kept_alloc ?_ _ | with_reducible refine kept_drewN ?_ _)))).mono ?_; rintro e w' ⟨ad, len, cap, zs, rfl, ho, hcn, hv, hg⟩)
      (try go_wp2_with fail)
      refine hK.out _ _ ?_ ?_
      ·(try dsimp only); ((refine mk_S bx bY ?_; (repeat' (first | with_reducible exact Kept.refl _ | with_reducible assumption | (go_split_ands; with_reducible assumption) | with_reducible refine kept_step (by with_reducible assumption) ?_ | with_reducible refine kept_drew ?_ | with_reducible refine kept_alloc ?_ _ | with_reducible refine kept_drewN ?_ _))))
      clear hK K hHeld; intro hHeld
      (try simp only [Act.put, List.setIfInBounds_toArray, List.set_cons_zero, List.set_cons_succ])
      refine wpAnyH_ready (rs := [11]) (by kernel_rfl) (by simp) ?_
      refine AllReadyH.cons (o := ⟨some 22, _, _, _, _, _⟩) rfl (fun K hK => ?_) ?_
      ·go_simp
       (go_at_call 11; refine (is_two (w0 := w0) (by assumption) (by assumption) (by assumption) ?_ (by assumption) (by assumption) (by assumption) ?_ ?_ ?_ ?_ (by decide)).mono ?_; (all_goals (try ((repeat' (first | with_reducible exact Below.refl _ _ | with_reducible assumption | with_reducible refine grow_step (by with_reducible assumption) ?_ | with_reducible refine grow_drew ?_ | with_reducible refine grow_alloc ?_ _ | with_reducible refine grow_drewN ?_ _)); done))); (all_goals (try ((repeat' (first | with_reducible exact Kept.refl _ | with_reducible assumption | (go_split_ands; with_reducible assumption) | with_reducible refine kept_step (by with_reducible assumption) ?_ | with_reducible refine kept_drew ?_ | with_reducible refine kept_alloc ?_ _ | with_reducible refine kept_drewN ?_ _)); done))); with_reducible refine loans2 bx bY (by assumption) ?_ ?_ rfl ?_ ?_; (all_goals (try ((repeat' (first | with_reducible exact Kept.refl _ | with_reducible assumption | (go_split_ands; with_reducible assumption) | with_reducible refine kept_step (by with_reducible assumption) ?_ | with_reducible refine kept_drew ?_ | with_reducible refine kept_alloc ?_ _ | with_reducible refine kept_drewN ?_ _)); done))); (all_goals (try ((repeat' (first | with_reducible exact Below.refl _ _ | with_reducible assumption | with_reducible refine grow_step (by with_reducible assumption) ?_ | with_reducible refine grow_drew ?_ | with_reducible refine grow_alloc ?_ _ | with_reducible refine grow_drewN ?_ _)); done))); (first | (refine Or.inl ?_; focus ((repeat' (first | with_reducible exact Below.refl _ _ | with_reducible assumption | with_reducible refine grow_step (by with_reducible assumption) ?_ | with_reducible refine grow_drew ?_ | with_reducible refine grow_alloc ?_ _ | with_reducible refine grow_drewN ?_ _)); done)) | (refine Or.inr ?_; focus ((repeat' (first | with_reducible exact Below.refl _ _ | with_reducible assumption | with_reducible refine grow_step (by with_reducible assumption) ?_ | with_reducible refine grow_drew ?_ | with_reducible refine grow_alloc ?_ _ | with_reducible refine grow_drewN ?_ _)); done))); rintro e w' ⟨rfl, hk⟩)
       (try go_wp2_with fail)
       refine hK.out _ _ ?_ ?_
       ·(try dsimp only); ((refine mk_S bx bY ?_; (repeat' (first | with_reducible exact Kept.refl _ | with_reducible assumption | (go_split_ands; with_reducible assumption) | with_reducible refine kept_step (by with_reducible assumption) ?_ | with_reducible refine kept_drew ?_ | with_reducible refine kept_alloc ?_ _ | with_reducible refine kept_drewN ?_ _))))
       clear hK K hHeld; intro hHeld
       (try simp only [Act.put, List.setIfInBounds_toArray, List.set_cons_zero, List.set_cons_succ])
       refine wpAnyH_take (i := 12) (oi := ⟨some 23, _, _, _, _, _⟩) (v := ?_) rfl (by kernel_rfl) (by kernel_rfl) (by kernel_rfl) (fun _ _ _ h => hP _ _ _ _ _ h) (Or.inl ⟨by rfl, ?_⟩) (by assumption) ?_
       rotate_left
       ·intro wq hSw; (try dsimp only at hSw); go_simp; (try with_reducible rfl)
       (try simp only [Act.put, List.setIfInBounds_toArray, List.set_cons_zero, List.set_cons_succ])
       exact anyH_listed (by kernel_rfl) (natDivisors_c2 hla hlb bx bY ra rb tb hP hend (by (repeat' (first | with_reducible exact Kept.refl _ | with_reducible assumption | (go_split_ands; with_reducible assumption) | with_reducible refine kept_step (by with_reducible assumption) ?_ | with_reducible refine kept_drew ?_ | with_reducible refine kept_alloc ?_ _ | with_reducible refine kept_drewN ?_ _))) _ _ _ _ _ _ _ _ _ _ _ _ _ _ _ _ _ _ _ _ _ _ _ _ _ _ _ _ _ _ _ _ _ _ _ _ _ _ _ _ _ _ _ _ _ _ _)
      exact AllReadyH.nil
     exact AllReadyH.nil
    exact AllReadyH.nil
   refine AllReadyH.cons (o := ⟨some 21, _, _, _, _, _⟩) rfl (fun K hK => ?_) ?_
   ·go_simp
    refine hK.out _ _ ?_ ?_
    ·(try dsimp only); ((refine mk_S bx bY ?_; (repeat' (first | with_reducible exact Kept.refl _ | with_reducible assumption | (go_split_ands; with_reducible assumption) | with_reducible refine kept_step (by with_reducible assumption) ?_ | with_reducible refine kept_drew ?_ | with_reducible refine kept_alloc ?_ _ | with_reducible refine kept_drewN ?_ _))))
    clear hK K hHeld; intro hHeld
    (try simp only [Act.put, List.setIfInBounds_toArray, List.set_cons_zero, List.set_cons_succ])
    refine wpAnyH_ready (rs := [4]) (by kernel_rfl) (by simp) ?_
    refine AllReadyH.cons (o := ⟨some 15, _, _, _, _, _⟩) rfl (fun K hK => ?_) ?_
    ·go_simp
     (go_at_call 22; first | (with_reducible refine (gcd_S bx bY (by (repeat' (first | with_reducible exact Kept.refl _ | with_reducible assumption | (go_split_ands; with_reducible assumption) | with_reducible refine kept_step (by with_reducible assumption) ?_ | with_reducible refine kept_drew ?_ | with_reducible refine kept_alloc ?_ _ | with_reducible refine kept_drewN ?_ _)))).mono ?_; rintro e w' ⟨ad, len, cap, zs, rfl, ho, hcn, hv, hg⟩) | (with_reducible refine (gcd_SX bx (by (repeat' (first | with_reducible exact Kept.refl _ | with_reducible assumption | (go_split_ands; with_reducible assumption) | with_reducible refine kept_step (by with_reducible assumption) ?_ | with_reducible refine kept_drew ?_ | with_reducible refine kept_alloc ?_ _ | with_reducible refine kept_drewN ?_ _)))).mono ?_; rintro e w' ⟨ad, len, cap, zs, rfl, ho, hcn, hv, hg⟩))
     (try go_wp2_with fail)
     refine hK.out _ _ ?_ ?_
     ·(try dsimp only); ((refine mk_S bx bY ?_; (repeat' (first | with_reducible exact Kept.refl _ | with_reducible assumption | (go_split_ands; with_reducible assumption) | with_reducible refine kept_step (by with_reducible assumption) ?_ | with_reducible refine kept_drew ?_ | with_reducible refine kept_alloc ?_ _ | with_reducible refine kept_drewN ?_ _))))
     clear hK K hHeld; intro hHeld
     (try simp only [Act.put, List.setIfInBounds_toArray, List.set_cons_zero, List.set_cons_succ])
     refine wpAnyH_ready (rs := [7]) (by kernel_rfl) (by simp) ?_
     refine AllReadyH.cons (o := ⟨some 18, _, _, _, _, _⟩) rfl (fun K hK => ?_) ?_
     ·go_simp
      (go_at_call 23; with_reducible refine (refgcd_S ra rb hla hlb (by (repeat' (first | with_reducible exact Kept.refl _ | with_reducible assumption | (go_split_ands; with_reducible assumption) | with_reducible refine kept_step (by with_reducible assumption) ?_ | with_reducible refine kept_drew ?_ | with_reducible refine kept_alloc ?_ _ | with_reducible refine kept_drewN ?_ _)))).mono ?_; rintro e w' ⟨ad, len, cap, zs, rfl, ho, hcn, hv, hg⟩)
      (try go_wp2_with fail)
      refine hK.out _ _ ?_ ?_
      ·(try dsimp only); ((refine mk_S bx bY ?_; (repeat' (first | with_reducible exact Kept.refl _ | with_reducible assumption | (go_split_ands; with_reducible assumption) | with_reducible refine kept_step (by with_reducible assumption) ?_ | with_reducible refine kept_drew ?_ | with_reducible refine kept_alloc ?_ _ | with_reducible refine kept_drewN ?_ _))))
      clear hK K hHeld; intro hHeld
      (try simp only [Act.put, List.setIfInBounds_toArray, List.set_cons_zero, List.set_cons_succ])
      refine wpAnyH_ready (rs := [11]) (by kernel_rfl) (by simp) ?_
      refine AllReadyH.cons (o := ⟨some 22, _, _, _, _, _⟩) rfl (fun K hK => ?_) ?_
      ·go_simp
       (go_at_call 11; refine (is_two (w0 := w0) (by assumption) (by assumption) (by assumption) ?_ (by assumption) (by assumption) (by assumption) ?_ ?_ ?_ ?_ (by decide)).mono ?_; (all_goals (try ((repeat' (first | with_reducible exact Below.refl _ _ | with_reducible assumption | with_reducible refine grow_step (by with_reducible assumption) ?_ | with_reducible refine grow_drew ?_ | with_reducible refine grow_alloc ?_ _ | with_reducible refine grow_drewN ?_ _)); done))); (all_goals (try ((repeat' (first | with_reducible exact Kept.refl _ | with_reducible assumption | (go_split_ands; with_reducible assumption) | with_reducible refine kept_step (by with_reducible assumption) ?_ | with_reducible refine kept_drew ?_ | with_reducible refine kept_alloc ?_ _ | with_reducible refine kept_drewN ?_ _)); done))); with_reducible refine loans2 bx bY (by assumption) ?_ ?_ rfl ?_ ?_; (all_goals (try ((repeat' (first | with_reducible exact Kept.refl _ | with_reducible assumption | (go_split_ands; with_reducible assumption) | with_reducible refine kept_step (by with_reducible assumption) ?_ | with_reducible refine kept_drew ?_ | with_reducible refine kept_alloc ?_ _ | with_reducible refine kept_drewN ?_ _)); done))); (all_goals (try ((repeat' (first | with_reducible exact Below.refl _ _ | with_reducible assumption | with_reducible refine grow_step (by with_reducible assumption) ?_ | with_reducible refine grow_drew ?_ | with_reducible refine grow_alloc ?_ _ | with_reducible refine grow_drewN ?_ _)); done))); (first | (refine Or.inl ?_; focus ((repeat' (first | with_reducible exact Below.refl _ _ | with_reducible assumption | with_reducible refine grow_step (by with_reducible assumption) ?_ | with_reducible refine grow_drew ?_ | with_reducible refine grow_alloc ?_ _ | with_reducible refine grow_drewN ?_ _)); done)) | (refine Or.inr ?_; focus ((repeat' (first | with_reducible exact Below.refl _ _ | with_reducible assumption | with_reducible refine grow_step (by with_reducible assumption) ?_ | with_reducible refine grow_drew ?_ | with_reducible refine grow_alloc ?_ _ | with_reducible refine grow_drewN ?_ _)); done))); rintro e w' ⟨rfl, hk⟩)
       (try go_wp2_with fail)
       refine hK.out _ _ ?_ ?_
       ·(try dsimp only); ((refine mk_S bx bY ?_; (repeat' (first | with_reducible exact Kept.refl _ | with_reducible assumption | (go_split_ands; with_reducible assumption) | with_reducible refine kept_step (by with_reducible assumption) ?_ | with_reducible refine kept_drew ?_ | with_reducible refine kept_alloc ?_ _ | with_reducible refine kept_drewN ?_ _))))
       clear hK K hHeld; intro hHeld
       (try simp only [Act.put, List.setIfInBounds_toArray, List.set_cons_zero, List.set_cons_succ])
       refine wpAnyH_take (i := 12) (oi := ⟨some 23, _, _, _, _, _⟩) (v := ?_) rfl (by kernel_rfl) (by kernel_rfl) (by kernel_rfl) (fun _ _ _ h => hP _ _ _ _ _ h) (Or.inl ⟨by rfl, ?_⟩) (by assumption) ?_
       rotate_left
       ·intro wq hSw; (try dsimp only at hSw); go_simp; (try with_reducible rfl)
       (try simp only [Act.put, List.setIfInBounds_toArray, List.set_cons_zero, List.set_cons_succ])
       exact anyH_listed (by kernel_rfl) (natDivisors_c2 hla hlb bx bY ra rb tb hP hend (by (repeat' (first | with_reducible exact Kept.refl _ | with_reducible assumption | (go_split_ands; with_reducible assumption) | with_reducible refine kept_step (by with_reducible assumption) ?_ | with_reducible refine kept_drew ?_ | with_reducible refine kept_alloc ?_ _ | with_reducible refine kept_drewN ?_ _))) _ _ _ _ _ _ _ _ _ _ _ _ _ _ _ _ _ _ _ _ _ _ _ _ _ _ _ _ _ _ _ _ _ _ _ _ _ _ _ _ _ _ _ _ _ _ _)
      exact AllReadyH.nil
     exact AllReadyH.nil
    exact AllReadyH.nil
   exact AllReadyH.nil
  refine AllReadyH.cons (o := ⟨some 21, _, _, _, _, _⟩) rfl (fun K hK => ?_) ?_
  ·go_simp
   refine hK.out _ _ ?_ ?_
   ·(try dsimp only); ((refine mk_S bx bY ?_; (repeat' (first | with_reducible exact Kept.refl _ | with_reducible assumption | (go_split_ands; with_reducible assumption) | with_reducible refine kept_step (by with_reducible assumption) ?_ | with_reducible refine kept_drew ?_ | with_reducible refine kept_alloc ?_ _ | with_reducible refine kept_drewN ?_ _))))
   clear hK K hHeld; intro hHeld
   (try simp only [Act.put, List.setIfInBounds_toArray, List.set_cons_zero, List.set_cons_succ])
   refine wpAnyH_ready (rs := [3]) (by kernel_rfl) (by simp) ?_
   refine AllReadyH.cons (o := ⟨some 14, _, _, _, _, _⟩) rfl (fun K hK => ?_) ?_
   ·go_simp
    (go_at_call 10; refine (list_any (by omega)).mono ?_; rintro e w' ⟨rfl, hg⟩)
    (try go_wp2_with fail)
    refine hK.out _ _ ?_ ?_
    ·(try dsimp only); ((refine mk_S bx bY ?_; (repeat' (first | with_reducible exact Kept.refl _ | with_reducible assumption | (go_split_ands; with_reducible assumption) | with_reducible refine kept_step (by with_reducible assumption) ?_ | with_reducible refine kept_drew ?_ | with_reducible refine kept_alloc ?_ _ | with_reducible refine kept_drewN ?_ _))))
    clear hK K hHeld; intro hHeld
    (try simp only [Act.put, List.setIfInBounds_toArray, List.set_cons_zero, List.set_cons_succ])
    refine wpAnyH_ready (rs := [4]) (by kernel_rfl) (by simp) ?_
    refine AllReadyH.cons (o := ⟨some 15, _, _, _, _, _⟩) rfl (fun K hK => ?_) ?_
    ·go_simp
     (go_at_call 22; first | (with_reducible refine (gcd_S bx bY (by (repeat' (first | with_reducible exact Kept.refl _ | with_reducible assumption | (go_split_ands; with_reducible assumption) | with_reducible refine kept_step (by with_reducible assumption) ?_ | with_reducible refine kept_drew ?_ | with_reducible refine kept_alloc ?_ _ | with_reducible refine kept_drewN ?_ _)))).mono ?_; rintro e w' ⟨ad, len, cap, zs, rfl, ho, hcn, hv, hg⟩) | (with_reducible refine (gcd_SX bx (by (repeat' (first | with_reducible exact Kept.refl _ | with_reducible assumption | (go_split_ands; with_reducible assumption) | with_reducible refine kept_step (by with_reducible assumption) ?_ | with_reducible refine kept_drew ?_ | with_reducible refine kept_alloc ?_ _ | with_reducible refine kept_drewN ?_ _)))).mono ?_; rintro e w' ⟨ad, len, cap, zs, rfl, ho, hcn, hv, hg⟩))
     (try go_wp2_with fail)
     refine hK.out _ _ ?_ ?_
     ·(try dsimp only); ((refine mk_S bx bY ?_; (repeat' (first | with_reducible exact Kept.refl _ | with_reducible assumption | (go_split_ands; with_reducible assumption) | with_reducible refine kept_step (by with_reducible assumption) ?_ | with_reducible refine kept_drew ?_ | with_reducible refine kept_alloc ?_ _ | with_reducible refine kept_drewN ?_ _))))
     clear hK K hHeld; intro hHeld
     (try simp only [Act.put, List.setIfInBounds_toArray, List.set_cons_zero, List.set_cons_succ])
     refine wpAnyH_ready (rs := [7]) (by kernel_rfl) (by simp) ?_
     refine AllReadyH.cons (o := ⟨some 18, _, _, _, _, _⟩) rfl (fun K hK => ?_) ?_
     ·go_simp
      (go_at_call 23; with_reducible refine (refgcd_S ra rb hla hlb (by (repeat' (first | with_reducible exact Kept.refl _ | with_reducible assumption | (go_split_ands; with_reducible assumption) | with_reducible refine kept_step (by with_reducible assumption) ?_ | with_reducible refine kept_drew ?_ | with_reducible refine kept_alloc ?_ _ | with_reducible refine kept_drewN ?_ _)))).mono ?_; rintro e w' ⟨ad, len, cap, zs, rfl, ho, hcn, hv, hg⟩)
      (try go_wp2_with fail)
      refine hK.out _ _ ?_ ?_
      ·(try dsimp only); ((refine mk_S bx bY ?_; (repeat' (first | with_reducible exact Kept.refl _ | with_reducible assumption | (go_split_ands; with_reducible assumption) | with_reducible refine kept_step (by with_reducible assumption) ?_ | with_reducible refine kept_drew ?_ | with_reducible refine kept_alloc ?_ _ | with_reducible refine kept_drewN ?_ _))))
      clear hK K hHeld; intro hHeld
      (try simp only [Act.put, List.setIfInBounds_toArray, List.set_cons_zero, List.set_cons_succ])
      refine wpAnyH_ready (rs := [11]) (by kernel_rfl) (by simp) ?_
      refine AllReadyH.cons (o := ⟨some 22, _, _, _, _, _⟩) rfl (fun K hK => ?_) ?_
      ·go_simp
       (go_at_call 11; refine (is_two (w0 := w0) (by assumption) (by assumption) (by assumption) ?_ (by assumption) (by assumption) (by assumption) ?_ ?_ ?_ ?_ (by decide)).mono ?_; (all_goals (try ((repeat' (first | with_reducible exact Below.refl _ _ | with_reducible assumption | with_reducible refine grow_step (by with_reducible assumption) ?_ | with_reducible refine grow_drew ?_ | with_reducible refine grow_alloc ?_ _ | with_reducible refine grow_drewN ?_ _)); done))); (all_goals (try ((repeat' (first | with_reducible exact Kept.refl _ | with_reducible assumption | (go_split_ands; with_reducible assumption) | with_reducible refine kept_step (by with_reducible assumption) ?_ | with_reducible refine kept_drew ?_ | with_reducible refine kept_alloc ?_ _ | with_reducible refine kept_drewN ?_ _)); done))); with_reducible refine loans2 bx bY (by assumption) ?_ ?_ rfl ?_ ?_; (all_goals (try ((repeat' (first | with_reducible exact Kept.refl _ | with_reducible assumption | (go_split_ands; with_reducible assumption) | with_reducible refine kept_step (by with_reducible assumption) ?_ | with_reducible refine kept_drew ?_ | with_reducible refine kept_alloc ?_ _ | with_reducible refine kept_drewN ?_ _)); done))); (all_goals (try ((repeat' (first | with_reducible exact Below.refl _ _ | with_reducible assumption | with_reducible refine grow_step (by with_reducible assumption) ?_ | with_reducible refine grow_drew ?_ | with_reducible refine grow_alloc ?_ _ | with_reducible refine grow_drewN ?_ _)); done))); (first | (refine Or.inl ?_; focus ((repeat' (first | with_reducible exact Below.refl _ _ | with_reducible assumption | with_reducible refine grow_step (by with_reducible assumption) ?_ | with_reducible refine grow_drew ?_ | with_reducible refine grow_alloc ?_ _ | with_reducible refine grow_drewN ?_ _)); done)) | (refine Or.inr ?_; focus ((repeat' (first | with_reducible exact Below.refl _ _ | with_reducible assumption | with_reducible refine grow_step (by with_reducible assumption) ?_ | with_reducible refine grow_drew ?_ | with_reducible refine grow_alloc ?_ _ | with_reducible refine grow_drewN ?_ _)); done))); rintro e w' ⟨rfl, hk⟩)
       (try go_wp2_with fail)
       refine hK.out _ _ ?_ ?_
       ·(try dsimp only); ((refine mk_S bx bY ?_; (repeat' (first | with_reducible exact Kept.refl _ | with_reducible assumption | (go_split_ands; with_reducible assumption) | with_reducible refine kept_step (by with_reducible assumption) ?_ | with_reducible refine kept_drew ?_ | with_reducible refine kept_alloc ?_ _ | with_reducible refine kept_drewN ?_ _))))
       clear hK K hHeld; intro hHeld
       (try simp only [Act.put, List.setIfInBounds_toArray, List.set_cons_zero, List.set_cons_succ])
       refine wpAnyH_take (i := 12) (oi := ⟨some 23, _, _, _, _, _⟩) (v := ?_) rfl (by kernel_rfl) (by kernel_rfl) (by kernel_rfl) (fun _ _ _ h => hP _ _ _ _ _ h) (Or.inl ⟨by rfl, ?_⟩) (by assumption) ?_
       rotate_left
       ·intro wq hSw; (try dsimp only at hSw); go_simp; (try with_reducible rfl)
       (try simp only [Act.put, List.setIfInBounds_toArray, List.set_cons_zero, List.set_cons_succ])
       exact anyH_listed (by kernel_rfl) (natDivisors_c2 hla hlb bx bY ra rb tb hP hend (by (repeat' (first | with_reducible exact Kept.refl _ | with_reducible assumption | (go_split_ands; with_reducible assumption) | with_reducible refine kept_step (by with_reducible assumption) ?_ | with_reducible refine kept_drew ?_ | with_reducible refine kept_alloc ?_ _ | with_reducible refine kept_drewN ?_ _))) _ _ _ _ _ _ _ _ _ _ _ _ _ _ _ _ _ _ _ _ _ _ _ _ _ _ _ _ _ _ _ _ _ _ _ _ _ _ _ _ _ _ _ _ _ _ _)
      exact AllReadyH.nil
     exact AllReadyH.nil
    exact AllReadyH.nil
   exact AllReadyH.nil
  exact AllReadyH.nil
 refine AllReadyH.cons (o := ⟨some 21, _, _, _, _, _⟩) rfl (fun K hK => ?_) ?_
 ·go_simp
  refine hK.out _ _ ?_ ?_
  ·(try dsimp only); ((refine mk_S bx bY ?_; (repeat' (first | with_reducible exact Kept.refl _ | with_reducible assumption | (go_split_ands; with_reducible assumption) | with_reducible refine kept_step (by with_reducible assumption) ?_ | with_reducible refine kept_drew ?_ | with_reducible refine kept_alloc ?_ _ | with_reducible refine kept_drewN ?_ _))))
  clear hK K hHeld; intro hHeld
  (try simp only [Act.put, List.setIfInBounds_toArray, List.set_cons_zero, List.set_cons_succ])
  refine wpAnyH_ready (rs := [1]) (by kernel_rfl) (by simp) ?_
  refine AllReadyH.cons (o := ⟨some 12, _, _, _, _, _⟩) rfl (fun K hK => ?_) ?_
  ·go_simp
   (go_at_call 10; refine (list_any (by omega)).mono ?_; rintro e w' ⟨rfl, hg⟩)
   (try go_wp2_with fail)
   refine hK.out _ _ ?_ ?_
   ·(try dsimp only); ((refine mk_S bx bY ?_; (repeat' (first | with_reducible exact Kept.refl _ | with_reducible assumption | (go_split_ands; with_reducible assumption) | with_reducible refine kept_step (by with_reducible assumption) ?_ | with_reducible refine kept_drew ?_ | with_reducible refine kept_alloc ?_ _ | with_reducible refine kept_drewN ?_ _))))
   clear hK K hHeld; intro hHeld
   (try simp only [Act.put, List.setIfInBounds_toArray, List.set_cons_zero, List.set_cons_succ])
   refine wpAnyH_ready (rs := [3]) (by kernel_rfl) (by simp) ?_
   refine AllReadyH.cons (o := ⟨some 14, _, _, _, _, _⟩) rfl (fun K hK => ?_) ?_
   ·go_simp
    (go_at_call 10; refine (list_any (by omega)).mono ?_; rintro e w' ⟨rfl, hg⟩)
    (try go_wp2_with fail)
    refine hK.out _ _ ?_ ?_
    ·(try dsimp only); ((refine mk_S bx bY ?_; (repeat' (first | with_reducible exact Kept.refl _ | with_reducible assumption | (go_split_ands; with_reducible assumption) | with_reducible refine kept_step (by with_reducible assumption) ?_ | with_reducible refine kept_drew ?_ | with_reducible refine kept_alloc ?_ _ | with_reducible refine kept_drewN ?_ _))))
    clear hK K hHeld; intro hHeld
    (try simp only [Act.put, List.setIfInBounds_toArray, List.set_cons_zero, List.set_cons_succ])
    refine wpAnyH_ready (rs := [4]) (by kernel_rfl) (by simp) ?_
    refine AllReadyH.cons (o := ⟨some 15, _, _, _, _, _⟩) rfl (fun K hK => ?_) ?_
    ·go_simp
     (go_at_call 22; first | (with_reducible refine (gcd_S bx bY (by (repeat' (first | with_reducible exact Kept.refl _ | with_reducible assumption | (go_split_ands; with_reducible assumption) | with_reducible refine kept_step (by with_reducible assumption) ?_ | with_reducible refine kept_drew ?_ | with_reducible refine kept_alloc ?_ _ | with_reducible refine kept_drewN ?_ _)))).mono ?_; rintro e w' ⟨ad, len, cap, zs, rfl, ho, hcn, hv, hg⟩) | (with_reducible refine (gcd_SX bx (by (repeat' (first | with_reducible exact Kept.refl _ | with_reducible assumption | (go_split_ands; with_reducible assumption) | with_reducible refine kept_step (by with_reducible assumption) ?_ | with_reducible refine kept_drew ?_ | with_reducible refine kept_alloc ?_ _ | with_reducible refine kept_drewN ?_ _)))).mono ?_; rintro e w' ⟨ad, len, cap, zs, rfl, ho, hcn, hv, hg⟩))
     (try go_wp2_with fail)
     refine hK.out _ _ ?_ ?_
     ·(try dsimp only); ((refine mk_S bx bY ?_; (repeat' (first | with_reducible exact Kept.refl _ | with_reducible assumption | (go_split_ands; with_reducible assumption) | with_reducible refine kept_step (by with_reducible assumption) ?_ | with_reducible refine kept_drew ?_ | with_reducible refine kept_alloc ?_ _ | with_reducible refine kept_drewN ?_ _))))
     clear hK K hHeld; intro hHeld
     (try simp only [Act.put, List.setIfInBounds_toArray, List.set_cons_zero, List.set_cons_succ])
     refine wpAnyH_ready (rs := [7]) (by kernel_rfl) (by simp) ?_
     refine AllReadyH.cons (o := ⟨some 18, _, _, _, _, _⟩) rfl (fun K hK => ?_) ?_
     ·go_simp
      (go_at_call 23; with_reducible refine (refgcd_S ra rb hla hlb (by (repeat' (first | with_reducible exact Kept.refl _ | with_reducible assumption | (go_split_ands; with_reducible assumption) | with_reducible refine kept_step (by with_reducible assumption) ?_ | with_reducible refine kept_drew ?_ | with_reducible refine kept_alloc ?_ _ | with_reducible refine kept_drewN ?_ _)))).mono ?_; rintro e w' ⟨ad, len, cap, zs, rfl, ho, hcn, hv, hg⟩)
      (try go_wp2_with fail)
      refine hK.out _ _ ?_ ?_
      ·(try dsimp only); ((refine mk_S bx bY ?_; (repeat' (first | with_reducible exact Kept.refl _ | with_reducible assumption | (go_split_ands; with_reducible assumption) | with_reducible refine kept_step (by with_reducible assumption) ?_ | with_reducible refine kept_drew ?_ | with_reducible refine kept_alloc ?_ _ | with_reducible refine kept_drewN ?_ _))))
      clear hK K hHeld; intro hHeld
      (try simp only [Act.put, List.setIfInBounds_toArray, List.set_cons_zero, List.set_cons_succ])
      refine wpAnyH_ready (rs := [11]) (by kernel_rfl) (by simp) ?_
      refine AllReadyH.cons (o := ⟨some 22, _, _, _, _, _⟩) rfl (fun K hK => ?_) ?_
      ·go_simp
       (go_at_call 11; refine (is_two (w0 := w0) (by assumption) (by assumption) (by assumption) ?_ (by assumption) (by assumption) (by assumption) ?_ ?_ ?_ ?_ (by decide)).mono ?_; (all_goals (try ((repeat' (first | with_reducible exact Below.refl _ _ | with_reducible assumption | with_reducible refine grow_step (by with_reducible assumption) ?_ | with_reducible refine grow_drew ?_ | with_reducible refine grow_alloc ?_ _ | with_reducible refine grow_drewN ?_ _)); done))); (all_goals (try ((repeat' (first | with_reducible exact Kept.refl _ | with_reducible assumption | (go_split_ands; with_reducible assumption) | with_reducible refine kept_step (by with_reducible assumption) ?_ | with_reducible refine kept_drew ?_ | with_reducible refine kept_alloc ?_ _ | with_reducible refine kept_drewN ?_ _)); done))); with_reducible refine loans2 bx bY (by assumption) ?_ ?_ rfl ?_ ?_; (all_goals (try ((repeat' (first | with_reducible exact Kept.refl _ | with_reducible assumption | (go_split_ands; with_reducible assumption) | with_reducible refine kept_step (by with_reducible assumption) ?_ | with_reducible refine kept_drew ?_ | with_reducible refine kept_alloc ?_ _ | with_reducible refine kept_drewN ?_ _)); done))); (all_goals (try ((repeat' (first | with_reducible exact Below.refl _ _ | with_reducible assumption | with_reducible refine grow_step (by with_reducible assumption) ?_ | with_reducible refine grow_drew ?_ | with_reducible refine grow_alloc ?_ _ | with_reducible refine grow_drewN ?_ _)); done))); (first | (refine Or.inl ?_; focus ((repeat' (first | with_reducible exact Below.refl _ _ | with_reducible assumption | with_reducible refine grow_step (by with_reducible assumption) ?_ | with_reducible refine grow_drew ?_ | with_reducible refine grow_alloc ?_ _ | with_reducible refine grow_drewN ?_ _)); done)) | (refine Or.inr ?_; focus ((repeat' (first | with_reducible exact Below.refl _ _ | with_reducible assumption | with_reducible refine grow_step (by with_reducible assumption) ?_ | with_reducible refine grow_drew ?_ | with_reducible refine grow_alloc ?_ _ | with_reducible refine grow_drewN ?_ _)); done))); rintro e w' ⟨rfl, hk⟩)
       (try go_wp2_with fail)
       refine hK.out _ _ ?_ ?_
       ·(try dsimp only); ((refine mk_S bx bY ?_; (repeat' (first | with_reducible exact Kept.refl _ | with_reducible assumption | (go_split_ands; with_reducible assumption) | with_reducible refine kept_step (by with_reducible assumption) ?_ | with_reducible refine kept_drew ?_ | with_reducible refine kept_alloc ?_ _ | with_reducible refine kept_drewN ?_ _))))
       clear hK K hHeld; intro hHeld
       (try simp only [Act.put, List.setIfInBounds_toArray, List.set_cons_zero, List.set_cons_succ])
       refine wpAnyH_take (i := 12) (oi := ⟨some 23, _, _, _, _, _⟩) (v := ?_) rfl (by kernel_rfl) (by kernel_rfl) (by kernel_rfl) (fun _ _ _ h => hP _ _ _ _ _ h) (Or.inl ⟨by rfl, ?_⟩) (by assumption) ?_
       rotate_left
       ·intro wq hSw; (try dsimp only at hSw); go_simp; (try with_reducible rfl)
       (try simp only [Act.put, List.setIfInBounds_toArray, List.set_cons_zero, List.set_cons_succ])
       exact anyH_listed (by kernel_rfl) (natDivisors_c2 hla hlb bx bY ra rb tb hP hend (by (repeat' (first | with_reducible exact Kept.refl _ | with_reducible assumption | (go_split_ands; with_reducible assumption) | with_reducible refine kept_step (by with_reducible assumption) ?_ | with_reducible refine kept_drew ?_ | with_reducible refine kept_alloc ?_ _ | with_reducible refine kept_drewN ?_ _))) _ _ _ _ _ _ _ _ _ _ _ _ _ _ _ _ _ _ _ _ _ _ _ _ _ _ _ _ _ _ _ _ _ _ _ _ _ _ _ _ _ _ _ _ _ _ _)
      exact AllReadyH.nil
     exact AllReadyH.nil
    exact AllReadyH.nil
   exact AllReadyH.nil
  exact AllReadyH.nil
 exact AllReadyH.nil
end Go.Proofs.YtndhjoofbkgkiaaDoor
